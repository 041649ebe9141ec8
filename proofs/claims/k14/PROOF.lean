import PyProof.Rows.All
import Wide.All
import OpenK.AllK
import Wide.FinOn
import Lean
import PyProof.EqAt
import PyProof.EqKinds
import PyProof.TupleCall
import PyProof.NeKinds
import PyProof.Rows.SetFrom
import PyProof.SetRoads
import PyProof.FactsAll.dict_keyiterator
import PyProof.DictIter
import PyProof.DictWalks
import KE.KDictSum
import PyProof.InstEq
import KE.KFmtOwn
import PySem.Challenge.RW_roomward_k14_machines_told
set_option Elab.async false
set_option linter.all false
set_option maxRecDepth 100000
set_option maxHeartbeats 4000000
namespace L2
open PySem PySem.Spec PyProof.Rows

noncomputable abbrev Key:=Sum Int Str
noncomputable def keyIs:Key→Value→Bool
 | .inl k,v=>Value.isInt k v
 | .inr x,v=>Value.isStrOf x v
noncomputable def keyH (w:World):Key→Int
 | .inl k=>hashInt k
 | .inr x=>hashStr w x
theorem keyIs_shape:∀ {k:Key} {v:Value},keyIs k v=true→(∃ i t,k=Sum.inl i∧v=Value.int i t)∨(∃ x t,k=Sum.inr x∧v=Value.str x t)
 | .inl i,v,h=>by
  obtain ⟨t,e⟩:=Value.isInt_shape (k:=i) (v:=v) h
  exact .inl ⟨i,t,rfl,e⟩
 | .inr x,v,h=>by
  obtain ⟨t,e⟩:=Value.isStrOf_shape (x:=x) (v:=v) h
  exact .inr ⟨x,t,rfl,e⟩
theorem keyIs_int (i:Int) (t:Tok):keyIs (.inl i) (.int i t)=true:=by simp [keyIs,Value.isInt]
theorem keyIs_str (x:Str) (t:Tok):keyIs (.inr x) (.str x t)=true:=by simp [keyIs,Value.isStrOf]
theorem key_ll (a b:Int):decide ((Sum.inl a:Key)=Sum.inl b)=(a==b):=by
 by_cases e:a=b
 ·subst e; simp
 ·have h:¬ (Sum.inl a:Key)=Sum.inl b:=fun q=>e (Sum.inl.inj q)
  rw [decide_eq_false h]
  exact (beq_eq_false_iff_ne.mpr e).symm
theorem key_rr (a b:Str):decide ((Sum.inr a:Key)=Sum.inr b)=decide (a=b):=by
 by_cases e:a=b
 ·subst e; simp
 ·have h:¬ (Sum.inr a:Key)=Sum.inr b:=fun q=>e (Sum.inr.inj q)
  rw [decide_eq_false h,decide_eq_false e]
theorem key_lr (a:Int) (b:Str):decide ((Sum.inl a:Key)=Sum.inr b)=false:=decide_eq_false (fun q=>nomatch q)
theorem key_rl (a:Str) (b:Int):decide ((Sum.inr a:Key)=Sum.inl b)=false:=decide_eq_false (fun q=>nomatch q)

noncomputable def mixKind (prog:Program) (w:World):PySem.KeyKind prog w Key where
 is:=keyIs
 hash:=keyH w
 inj:=fun v a b ha hb=>by
  rcases keyIs_shape ha with ⟨i,t,rfl,rfl⟩ | ⟨x,t,rfl,rfl⟩
  ·rcases keyIs_shape hb with ⟨j,u,rfl,e⟩ | ⟨y,u,rfl,e⟩
   ·injection e with e1 _; rw [e1]
   ·exact nomatch e
  ·rcases keyIs_shape hb with ⟨j,u,rfl,e⟩ | ⟨y,u,rfl,e⟩
   ·exact nomatch e
   ·injection e with e1 _; rw [e1]
 byValue:=fun k v h=>by
  rcases keyIs_shape h with ⟨i,t,rfl,rfl⟩ | ⟨x,t,rfl,rfl⟩ <;> rfl
 pyHash:=fun hv h=>by
  rcases keyIs_shape hv with ⟨i,t,rfl,rfl⟩ | ⟨x,t,rfl,rfl⟩
  ·exact wpAny_pyHash_int h
  ·exact wpAny_pyHash_str h
 eqBool:=fun hu hv h=>by
  rcases keyIs_shape hu with ⟨i,t,rfl,rfl⟩ | ⟨x,t,rfl,rfl⟩
  ·rcases keyIs_shape hv with ⟨j,u,rfl,rfl⟩ | ⟨y,u,rfl,rfl⟩
   ·rw [key_ll] at h; exact wpAny_eqBool_int h
   ·rw [key_lr] at h; exact SeqAt.EqAt.int_str i t y u _ _ _ _ h
  ·rcases keyIs_shape hv with ⟨j,u,rfl,rfl⟩ | ⟨y,u,rfl,rfl⟩
   ·rw [key_rl] at h; exact SeqAt.EqAt.str_int x t j u _ _ _ _ h
   ·rw [key_rr] at h; exact wpAny_eqBool_str h
 «strs»:=fun k x t v h=>by
  rcases keyIs_shape h with ⟨i,u,rfl,e⟩ | ⟨y,u,rfl,e⟩
  ·exact nomatch e
  ·injection e with e1 _
   subst e1
   cases v <;> rfl

theorem mixKind_int (prog:Program) (w:World) (i:Int) (t:Tok):(mixKind prog w).is (.inl i) (.int i t)=true:=keyIs_int i t
theorem mixKind_str (prog:Program) (w:World) (x:Str) (t:Tok):(mixKind prog w).is (.inr x) (.str x t)=true:=keyIs_str x t
end L2

namespace L2
open PySem PySem.Spec PyProof.Rows

inductive V where
 | non | bl (b:Bool) | int (i:Int) | str (x:Str) | byt (b:Array UInt8) | flt (b:UInt64) | ref (a:Addr) | ty (n:String)
 deriving DecidableEq

noncomputable def RelV:V→Value→Prop
 | .non,u=>u=Value.none
 | .bl b,u=>u=Value.bool b
 | .int i,u=>∃ t,u=Value.int i t
 | .str x,u=>∃ t,u=Value.str x t
 | .byt b,u=>∃ t,u=Value.bytes b t
 | .flt b,u=>∃ t,u=Value.float b t
 | .ref a,u=>u=Value.ref a
 | .ty n,u=>u=Value.type n

noncomputable abbrev Vals:List V→List Value→Prop:=Paired RelV
theorem Vals.length {xs:List V} {us:List Value} (r:Vals xs us):xs.length=us.length:=Paired.length r
theorem Vals.get:∀ {xs:List V} {us:List Value} {i:Nat} {x:V},Vals xs us→xs[i]?=some x→∃ u,us[i]?=some u∧RelV x u
 | _,_,_,_,.nil,e=>by simp at e
 | _,_,0,_,.cons r _,e=>by simp at e; subst e; exact ⟨_,rfl,r⟩
 | _,_,i+1,x,.cons _ t,e=>by
  obtain ⟨u,h1,h2⟩:=Vals.get (i:=i) (x:=x) t (by simpa using e)
  exact ⟨u,by simpa using h1,h2⟩
theorem Vals.append:∀ {xs ys:List V} {us ws:List Value},Vals xs us→Vals ys ws→Vals (xs++ys) (us++ws)
 | _,_,_,_,.nil,s=>s
 | _,_,_,_,.cons r t,s=>.cons r (Vals.append t s)
theorem Vals.take:∀ {xs:List V} {us:List Value} (n:Nat),Vals xs us→Vals (xs.take n) (us.take n)
 | _,_,0,_=>.nil
 | _,_,_+1,.nil=>.nil
 | _,_,n+1,.cons r t=>.cons r (Vals.take n t)
theorem Vals.drop:∀ {xs:List V} {us:List Value} (n:Nat),Vals xs us→Vals (xs.drop n) (us.drop n)
 | _,_,0,r=>r
 | _,_,_+1,.nil=>.nil
 | _,_,n+1,.cons _ t=>Vals.drop n t

noncomputable def RelO:Option V→Option Value→Prop
 | some v,some u=>RelV v u
 | none,none=>True
 | _,_=>False
noncomputable def KV {κ:Type}:List (κ×V)→List (κ×Value)→Prop:=Paired fun (p:κ×V) (q:κ×Value)=>p.1=q.1∧RelV p.2 q.2

noncomputable def kV:Key→V
 | .inl i=>.int i
 | .inr x=>.str x

inductive HO where
  | lst (xs:List V)
  | tup (xs:List V)
  | dK (kvs:List (Key×V)) | dT (kvs:List (List Key×V))
  | set (S:Int→Bool) (n:Nat)
  | ins (C dx:Addr) (fs:List (Str×V))
  | own (x:Addr)
  | xd (fs:List (Str×V))
  | met (f x:Addr)
  | rng (lo hi:Int)
  | frz (o:Obj) (u:HO)
  | tbl (ps:Array Value)
  | ext (φ:Heap→Prop)

noncomputable abbrev Hp:=Addr→Option HO
noncomputable def upd (H:Hp) (a:Addr) (o:HO):Hp:=fun b=>if b=a then some o else H b
theorem upd_same {H:Hp} {a:Addr} {o:HO}:upd H a o a=some o:=by unfold upd; rw [if_pos rfl]
theorem upd_ne {H:Hp} {a b:Addr} {o:HO} (h:b≠a):upd H a o b=H b:=by unfold upd; rw [if_neg h]
theorem ne_of {H:Hp} {a b:Addr} {o u:HO} (h:H a=some o) (h':H b=some u) (d:o≠u):a≠b:=by
 intro e; subst e; rw [h] at h'; exact d (Option.some.inj h')
theorem ne_of_none {H:Hp} {a b:Addr} {o:HO} (h:H a=some o) (h':H b=none):a≠b:=by
 intro e; subst e; rw [h] at h'; cases h'

section
variable (P:Program) (w:World)
noncomputable def ObjOk (H:Hp) (h:Heap) (a:Addr):HO→Prop
 | .lst xs=>xs.length≤sizeLine∧∃ (its:List Value) (n:Nat),Vals xs its∧h.get? a=some { cls:=.type "list",data:=.seq its.toArray n }
 | .tup xs=>xs.length≤sizeLine∧∃ its:List Value,Vals xs its∧IsTup h a its.toArray
 | .dK kvs=>kvs.length≤sizeLine∧(a==sysModules)=false∧∃ vs,KV kvs vs∧h.DictOf (mixKind P w) a vs
 | .dT kvs=>kvs.length≤sizeLine∧(a==sysModules)=false∧∃ xs:List (List Key×Addr×Value),
   Paired (fun (p:List Key×V) (q:List Key×Addr×Value)=>p.1=q.1∧H q.2.1=some (.tup (p.1.map kV))∧RelV p.2 q.2.2) kvs xs ∧
   ∃ o es ep,h.get? a=some o∧o.ExactDict∧o.data=.dict es ep∧es.toList=xs.map (entryOfKey (tupleKind (mixKind P w)))∧(xs.map (·.1)).Nodup
 | .set S n=>h.SetOf (intKind P w) a S n
 | .ins C dx fs=>H dx=some (.own a)∧fs.length≤1000∧dx≠a∧h.get? a=some (PySem.W.instObj C dx) ∧
   ∃ mA,h.Ns1 dx mA∧(∀ f,RelO (fs.lookup f) (mA f))∧PySem.Within mA (fs.map (·.1))
 | .own _=>∃ o,h.get? a=some o
 | .xd fs=>∃ mA,h.Ns1 a mA∧∀ f,RelO (fs.lookup f) (mA f)
 | .rng lo hi=>∃ t u v,h.get? a=some { cls:=.type "range",data:=.fields #[.int lo t,.int hi u,.int 1 v] }
 | .frz o u=>h.get? a=some o∧ObjOk H h a u
 | .tbl ps=>h.get? a=some { cls:=.none,data:=.fields ps }
 | .met f x=>h.get? a=some (PySem.W.methodObj (.ref f) (.ref x))
 | .ext φ=>φ h∧(∃ o,h.get? a=some o)∧∀ h1 h2:Heap,φ h1→(∀ o,h1.get? a=some o→h2.get? a=some o)→φ h2
noncomputable def HOk (H:Hp) (h:Heap):Prop:=∀ a o,H a=some o→ObjOk P w H h a o
end

section
variable {P:Program} {w:World} {H H':Hp} {h h':Heap} {a:Addr} {o:HO}
theorem ObjOk.lt (x:ObjOk P w H h a o):a<h.objs.size:=by
 cases o with
 | lst xs=>obtain ⟨_,_,_,_,e⟩:=x; exact Heap.lt_size e
 | tup xs=>obtain ⟨_,_,_,p⟩:=x; exact p.lt
 | dK kvs=>obtain ⟨_,_,_,_,o,_,_,e,_⟩:=x; exact Heap.lt_size e
 | dT kvs=>obtain ⟨_,_,_,_,o,_,_,e,_⟩:=x; exact Heap.lt_size e
 | set S n=>obtain ⟨o,_,_,_,e,_⟩:=x; exact Heap.lt_size e
 | ins C dx fs=>obtain ⟨_,_,_,e,_⟩:=x; exact Heap.lt_size e
 | own y=>obtain ⟨_,e⟩:=x; exact Heap.lt_size e
 | xd fs=>obtain ⟨_,⟨_,_,_,e,_⟩,_⟩:=x; exact Heap.lt_size e
 | rng lo hi=>obtain ⟨_,_,_,e⟩:=x; exact Heap.lt_size e
 | frz ob u=>obtain ⟨e,_⟩:=x; exact Heap.lt_size e
 | tbl ps=>exact Heap.lt_size (show h.get? a=some _ from x)
 | met f y=>exact Heap.lt_size (show h.get? a=some _ from x)
 | ext φ=>obtain ⟨_,⟨_,e⟩,_⟩:=x; exact Heap.lt_size e
theorem Paired.mapP {α β:Type} {F G:α→β→Prop}:∀ {l₁:List α} {l₂:List β},Paired F l₁ l₂→(∀ a b,F a b→G a b)→Paired G l₁ l₂
 | _,_,.nil,_=>.nil
 | _,_,.cons r t,f=>.cons (f _ _ r) (Paired.mapP t f)
theorem ObjOk.stay (x:ObjOk P w H h a o) (k:∀ b u,(b=a∨H b=some (.own a))→h.get? b=some u→h'.get? b=some u)
  (ho:∀ b,H b=some (.own a)→H' b=some (.own a)) (ht:∀ b xs,H b=some (.tup xs)→H' b=some (.tup xs)):ObjOk P w H' h' a o:=by
 induction o with
 | lst xs=>obtain ⟨z,its,n,r,e⟩:=x; exact ⟨z,its,n,r,k _ _ (.inl rfl) e⟩
 | tup xs=>obtain ⟨z,its,r,ob,e,c⟩:=x; exact ⟨z,its,r,ob,k _ _ (.inl rfl) e,c⟩
 | dK kvs=>obtain ⟨z,y,vs,r,ob,es,ep,e,c⟩:=x; exact ⟨z,y,vs,r,ob,es,ep,k _ _ (.inl rfl) e,c⟩
 | dT kvs=>
  obtain ⟨z,y,xs,r,ob,es,ep,e,c⟩:=x
  exact ⟨z,y,xs,Paired.mapP r fun p q z=>⟨z.1,ht _ _ z.2.1,z.2.2⟩,ob,es,ep,k _ _ (.inl rfl) e,c⟩
 | set S n=>obtain ⟨ob,es,ep,t,e,c⟩:=x; exact ⟨ob,es,ep,t,k _ _ (.inl rfl) e,c⟩
 | ins C dx fs=>
  obtain ⟨d,z,ne,e,mA,⟨od,es,ep,e2,c⟩,r⟩:=x
  exact ⟨ho _ d,z,ne,k _ _ (.inl rfl) e,mA,⟨od,es,ep,k _ _ (.inr d) e2,c⟩,r⟩
 | own y=>obtain ⟨ob,e⟩:=x; exact ⟨ob,k _ _ (.inl rfl) e⟩
 | xd fs=>obtain ⟨mA,⟨od,es,ep,e,c⟩,r⟩:=x; exact ⟨mA,⟨od,es,ep,k _ _ (.inl rfl) e,c⟩,r⟩
 | rng lo hi=>obtain ⟨t,u,v,e⟩:=x; exact ⟨t,u,v,k _ _ (.inl rfl) e⟩
 | frz ob u ih=>obtain ⟨e,q⟩:=x; exact ⟨k _ _ (.inl rfl) e,ih q⟩
 | tbl ps=>
  have e:h.get? a=some { cls:=.none,data:=.fields ps }:=x
  show h'.get? a=some { cls:=.none,data:=.fields ps }
  exact k a _ (.inl rfl) e
 | met f y=>
  have e:h.get? a=some (PySem.W.methodObj (.ref f) (.ref y)):=x
  show h'.get? a=some (PySem.W.methodObj (.ref f) (.ref y))
  exact k a _ (.inl rfl) e
 | ext φ=>obtain ⟨p,⟨o,e⟩,st⟩:=x; exact ⟨st _ _ p fun o q=>k _ _ (.inl rfl) q,⟨o,k _ _ (.inl rfl) e⟩,st⟩
theorem HOk.lt (x:HOk P w H h) (e:H a=some o):a<h.objs.size:=(x a o e).lt
theorem HOk.fresh (x:HOk P w H h) (e:h.objs.size≤a):H a=none:=by
 cases q:H a with
 | none=>rfl
 | some u=>exact absurd (Nat.lt_of_lt_of_le (x.lt q) e) (Nat.lt_irrefl _)
theorem HOk.kept (x:HOk P w H h) (k:∀ b u,h.get? b=some u→h'.get? b=some u):HOk P w H h':=fun a o e=>
 (x a o e).stay (fun b u _ q=>k b u q) (fun _ q=>q) fun _ _ q=>q
theorem HOk.laid (x:HOk P w H h) (k:∀ b u,h.get? b=some u→h'.get? b=some u) (hp:h.objs.size≤a) (new:ObjOk P w (upd H a o) h' a o):HOk P w (upd H a o) h':=fun b u e=>by
 have hn:=x.fresh hp
 by_cases hb:b=a
 ·subst hb; rw [upd_same] at e; cases e; exact new
 ·rw [upd_ne hb] at e
  exact (x b u e).stay (fun c v _ q=>k c v q) (fun c q=>by rw [upd_ne (ne_of_none q hn)]; exact q) fun c xs q=>by rw [upd_ne (ne_of_none q hn)]; exact q
end

noncomputable def Rd (H:Hp) (a:Addr) (u:HO):Prop:=H a=some u∨∃ o,H a=some (.frz o u)
theorem Rd.ok {P:Program} {w:World} {H:Hp} {h:Heap} {a:Addr} {u:HO} (r:Rd H a u) (x:HOk P w H h):ObjOk P w H h a u:=by
 rcases r with r | ⟨o,r⟩
 ·exact x a u r
 ·obtain ⟨_,q⟩:=x a _ r
  exact q
noncomputable def Mut:Option HO→Prop
 | some (.lst _)=>True
 | some (.dK _)=>True
 | some (.dT _)=>True
 | some (.set _ _)=>True
 | some (.ins _ _ _)=>True
 | some (.ext _)=>True
 | _=>False
section
variable {P:Program} {w:World} {H:Hp} {h h':Heap} {x e:Addr} {o':HO}
theorem HOk.write (ok:HOk P w H h) (mu:Mut (H x)) (he:e=x∨H e=some (.own x)) (k:∀ b u,b≠e→h.get? b=some u→h'.get? b=some u) (heo:∃ u,h'.get? e=some u)
  (new:ObjOk P w (upd H x o') h' x o'):HOk P w (upd H x o') h':=fun b u q=>by
 have nown:∀ c y,H c=some (.own y)→c≠x:=fun c y r z=>by subst z; rw [r] at mu; exact mu
 have ntup:∀ c xs,H c=some (.tup xs)→c≠x:=fun c xs r z=>by subst z; rw [r] at mu; exact mu
 by_cases hb:b=x
 ·subst hb; rw [upd_same] at q; cases q; exact new
 ·rw [upd_ne hb] at q
  by_cases hbe:b=e
  ·have q':H b=some (.own x):=by
    rcases he with z | z
    ·exact absurd (hbe.trans z) hb
    ·rw [hbe]; exact z
   rw [q] at q'; cases q'
   obtain ⟨v,hv⟩:=heo
   exact ⟨v,by rw [hbe]; exact hv⟩
  ·refine (ok b u q).stay (fun c v hc r=>k c v ?_ r) (fun c r=>by rw [upd_ne (nown c b r)]; exact r) fun c xs r=>by rw [upd_ne (ntup c xs r)]; exact r
   rcases hc with rfl | hc
   ·exact hbe
   ·rintro rfl
    rcases he with z | z
    ·exact nown c b hc z
    ·rw [hc] at z; cases z; exact hb rfl
end

structure Un (fs ex:List Addr) (H H':Hp) (h h':Heap):Prop where
 keep:∀ b o,h.get? b=some o→H b=none→b∉fs→b∉ex→h'.get? b=some o
 slot:∀ b o,h.get? b=some o→H b=none→b∈fs→b∉ex→∃ sl,h'.get? b=some { o with slots:=sl }
 free:∀ b o,h.get? b=some o→H b=none→b∉ex→H' b=none
 there:∀ b o,h.get? b=some o→b∉ex→∃ o',h'.get? b=some o'
 tups:∀ b xs,H b=some (.tup xs)→H' b=some (.tup xs)
 frzs:∀ b o u,H b=some (.frz o u)→H' b=some (.frz o u)
 tbls:∀ b ps,H b=some (.tbl ps)→∃ more,H' b=some (.tbl (ps++more))
section
variable {fs fs' ex ex':List Addr} {H H1 H2:Hp} {h h1 h2 h':Heap} {a x e:Addr} {o:HO}
theorem Un.any (u:Un fs ex H H1 h h1) {b:Addr} {ob:Obj} (q:h.get? b=some ob) (n:H b=none) (hx:b∉ex):∃ sl,h1.get? b=some { ob with slots:=sl }:=by
 by_cases hb:b∈fs
 ·exact u.slot b ob q n hb hx
 ·exact ⟨ob.slots,u.keep b ob q n hb hx⟩
theorem Un.kept (k:∀ b u,h.get? b=some u→h'.get? b=some u):Un fs ex H H h h':=
 ⟨fun b ob q _ _ _=>k b ob q,fun b ob q _ _ _=>⟨ob.slots,k b ob q⟩,fun _ _ _ n _=>n,fun b ob q _=>⟨ob,k b ob q⟩,fun _ _ q=>q,fun _ _ _ q=>q,fun _ ps q=>⟨#[],by rw [q]; simp⟩⟩
theorem Un.refl:Un fs ex H H h h:=Un.kept fun _ _ q=>q
theorem Un.laid (k:∀ b u,h.get? b=some u→h'.get? b=some u) (hp:h.objs.size≤a) (hn:H a=none):Un fs ex H (upd H a o) h h' where
 keep:=fun b u q _ _ _=>k b u q
 slot:=fun b u q _ _ _=>⟨u.slots,k b u q⟩
 free:=fun b u q n _=>by rw [upd_ne (Nat.ne_of_lt (Nat.lt_of_lt_of_le (Heap.lt_size q) hp))]; exact n
 there:=fun b u q _=>⟨u,k b u q⟩
 tups:=fun b xs q=>by rw [upd_ne (ne_of_none q hn)]; exact q
 frzs:=fun b u xs q=>by rw [upd_ne (ne_of_none q hn)]; exact q
 tbls:=fun b ps q=>⟨#[],by rw [upd_ne (ne_of_none q hn),q]; simp⟩
theorem Un.write (mu:Mut (H x)) (he:e=x∨H e=some (.own x)) (k:∀ b u,b≠e→h.get? b=some u→h'.get? b=some u) (heo:∃ u,h'.get? e=some u):Un fs ex H (upd H x o) h h':=by
 have hx:∀ b,H b=none→b≠x:=fun b n z=>by subst z; rw [n] at mu; exact mu
 have hb:∀ b,H b=none→b≠e:=fun b n z=>by
  subst z
  rcases he with r | r
  ·exact hx b n r
  ·rw [n] at r; cases r
 have hm:∀ b u,H b=some u→¬ Mut (some u)→b≠x:=fun b u q nm z=>by subst z; rw [q] at mu; exact nm mu
 refine ⟨fun b u q n _ _=>k b u (hb b n) q,fun b u q n _ _=>⟨u.slots,k b u (hb b n) q⟩,fun b u q n _=>by rw [upd_ne (hx b n)]; exact n,fun b u q _=>?_,
  fun b xs q=>by rw [upd_ne (hm b _ q fun z=>z)]; exact q,fun b u xs q=>by rw [upd_ne (hm b _ q fun z=>z)]; exact q,fun b ps q=>⟨#[],by rw [upd_ne (hm b _ q fun z=>z),q]; simp⟩⟩
 by_cases hbe:b=e
 ·subst hbe; exact heo
 ·exact ⟨u,k b u hbe q⟩
end

noncomputable def trk (h:Heap) (H:Hp):List Addr:=(List.range h.objs.size).filter fun a=>(H a).isSome
noncomputable def hidT (h:Heap) (H:Hp):Heap:=PySem.W.hideAll h (trk h H)
theorem hidT_size (h:Heap) (H:Hp):(hidT h H).objs.size=h.objs.size:=PySem.W.hideAll_size _ _
theorem hidT_get {h:Heap} {H:Hp} {b:Addr} {o:Obj} (e:h.get? b=some o) (n:H b=none):(hidT h H).get? b=some o:=
 PySem.W.hideAll_get _ e fun hm=>by
  have q:(H b).isSome=true:=(List.mem_filter.mp hm).2
  rw [n] at q; simp at q
theorem of_hidT {h:Heap} {H:Hp} {b:Addr} {o:Obj} (e:(hidT h H).get? b=some o):h.get? b=some o∧H b=none:=by
 have e':h.get? b=some o:=PySem.W.of_hideAll (trk h H) e
 refine ⟨e',?_⟩
 cases q:H b with
 | none=>rfl
 | some x=>
  have hm:b∈trk h H:=List.mem_filter.mpr ⟨List.mem_range.mpr (Heap.lt_size e'),by simp [q]⟩
  have z:(hidT h H).get? b=none:=PySem.W.hideAll_none (trk h H) hm
  rw [z] at e; cases e

end L2

namespace L2
open PySem PySem.Spec PyProof.Rows

structure Mod (K:PySem.W.Frag) (mg:Str→Option Value) (base:Heap):Prop where
 kin:K.In base
 glob:base.Ns mainGlobals mg
 blt:∃ mb,base.Ns builtinsNs mb∧∀ x:Str,x≠"__name__" → mb x=bootBuiltins x
 nolimit:base.NoLimit

structure Cx where
 prog:Program
 w:World
 K:PySem.W.Frag
 mg:Str→Option Value
 base:Heap
 A:Around
 N:List Str
 s₀:Shared
 H₀:Hp
 env:Env
 outer:List Env
 stack:List Env
 ex:List Addr
 fn:Str→Bool
 calm:Bool
 pn:List (Addr×Obj)
 xe:Value→Shared→Prop
noncomputable def frs (l:List Env):List Addr:=l.filterMap (·.frame)
noncomputable abbrev Cx.fs (X:Cx):List Addr:=frs X.outer

noncomputable def Vis (sc:Scope) (x:Str):Prop:=sc.names.lookup x=some .local∨sc.names.lookup x=some .cell∨sc.names.lookup x=some .free
noncomputable def Loc (sc:Scope) (x:Str):Prop:=sc.names.lookup x=some .local∨sc.names.lookup x=some .cell
noncomputable def Look (env:Env) (h:Heap) (m:Str→Option Value) (x:Str) (u:Value):Prop:=
 (env.kindOf x=some .local∧m x=some u)∨((env.kindOf x=some .cell∨env.kindOf x=some .free)∧∃ c,env.cells.lookup x=some c∧h.IsCell c (some u))

structure Cx.Ok (X:Cx):Prop where
 mod:Mod X.K X.mg X.base
 kind:X.env.scope.kind=.function
 glob:X.env.globals=mainGlobals
 blt:X.env.builtins=builtinsNs
 above:X.s₀.heap.objs.size≤X.env.locals
 inj:∀ x y c,X.env.cells.lookup x=some c→X.env.cells.lookup y=some c→x=y
 has:∀ x,(X.env.kindOf x=some .cell∨X.env.kindOf x=some .free)→∃ c,X.env.cells.lookup x=some c
 cab:∀ x c,X.fn x=true→X.env.cells.lookup x=some c→X.s₀.heap.objs.size≤c
 hd:X.calm=true→X.A.handled=none
 frames:X.A.frames=some X.stack
 stk:X.stack=X.outer∨(X.stack=X.env::X.outer∧X.env.frame=some X.env.locals)
 exf:∀ b∈X.ex,b≠X.env.locals∧∀ x c,X.env.cells.lookup x=some c→c≠b
 bs:∀ b o,X.base.get? b=some o→X.s₀.heap.get? b=some o∧X.H₀ b=none
 bsz:X.base.objs.size≤X.s₀.heap.objs.size
 noex:∀ b o,X.base.get? b=some o→b∉X.ex
 exfs:∀ b∈X.ex,b∉X.fs
 funs:X.s₀.heap.FunFrames X.base X.outer
 frf:∀ b∈X.fs,X.H₀ b=none

structure Inv (X:Cx) (pins:List (Addr×Obj)) (σ:List (Option V)) (H:Hp) (s:Shared):Prop where
 ok:X.Ok
 os:s.os=X.s₀.os
 bare:AllBare s.gens
 base:Un X.fs X.ex X.H₀ H X.s₀.heap s.heap
 loc:∃ m,s.heap.Ns X.env.locals m∧∀ (i:Nat) (x:Str) (v:V),X.N[i]?=some x→σ[i]?=some (some v)→Vis X.env.scope x→∃ u,RelV v u∧Look X.env s.heap m x u
 cell:∀ x c,X.env.cells.lookup x=some c→∃ v,s.heap.IsCell c v
 free:H X.env.locals=none
 freeC:∀ x c,X.env.cells.lookup x=some c→H c=none
 pin:∀ p∈X.pn++pins,s.heap.get? p.1=some p.2∧H p.1=none∧p.1≠X.env.locals∧p.1∉X.fs∧∀ v,p.2.data≠.cell v
 hok:HOk X.prog X.w H s.heap
 len:σ.length=X.N.length

section
variable {X:Cx} {pins:List (Addr×Obj)} {σ:List (Option V)} {H H':Hp} {s:Shared} {h':Heap}

theorem Cx.Ok.nofr (ok:X.Ok) {b:Addr} {o:Obj} (e:X.base.get? b=some o):b∉X.fs:=fun hb=>by
 have:=(ok.funs.mem hb).1
 rw [e] at this; cases this
theorem Inv.bs (I:Inv X pins σ H s):∀ b o,X.base.get? b=some o→s.heap.get? b=some o∧H b=none:=fun b o e=>
 ⟨I.base.keep b o (I.ok.bs b o e).1 (I.ok.bs b o e).2 (I.ok.nofr e) (I.ok.noex b o e),I.base.free b o (I.ok.bs b o e).1 (I.ok.bs b o e).2 (I.ok.noex b o e)⟩
theorem Inv.bk (I:Inv X pins σ H s):∀ b o,X.base.get? b=some o→s.heap.get? b=some o:=fun b o e=>(I.bs b o e).1
theorem Inv.mod (I:Inv X pins σ H s):Mod X.K X.mg X.base:=I.ok.mod
theorem Inv.kIn (I:Inv X pins σ H s):X.K.In s.heap:=I.ok.mod.kin.keeps I.bk
theorem Inv.nolimit (I:Inv X pins σ H s):s.heap.NoLimit:=I.ok.mod.nolimit.keeps I.bk
theorem Inv.lt (I:Inv X pins σ H s):X.env.locals<s.heap.objs.size:=let ⟨_,hn,_⟩:=I.loc; hn.lt
theorem Inv.sz (I:Inv X pins σ H s):X.s₀.heap.objs.size≤s.heap.objs.size:=Nat.le_trans I.ok.above (Nat.le_of_lt I.lt)
theorem Inv.nofs (I:Inv X pins σ H s) {a:Addr} (h:s.heap.objs.size≤a):a∉X.fs:=fun hb=>by
 obtain ⟨_,o,ho,_⟩:=I.ok.funs.mem hb
 exact absurd (Nat.lt_of_lt_of_le (Heap.lt_size ho) (Nat.le_trans I.sz h)) (Nat.lt_irrefl _)
theorem Inv.cne (I:Inv X pins σ H s):∀ x c,X.env.cells.lookup x=some c→c≠X.env.locals:=fun x c e z=>by
 obtain ⟨v,o,ho,hd⟩:=I.cell x c e
 obtain ⟨m,⟨o',es,ep,ho',hd',_⟩,_⟩:=I.loc
 rw [z,ho'] at ho; cases ho; rw [hd'] at hd; cases hd
theorem Inv.funs (I:Inv X pins σ H s):s.heap.FunFrames X.base X.outer:=by
 have all:∀ (l:List Env),(∀ b∈frs l,b∈X.fs)→X.s₀.heap.FunFrames X.base l→s.heap.FunFrames X.base l:=by
  intro l
  induction l with
  | nil=>intro _ _; trivial
  | cons env r ih=>
   intro hs hl
   obtain ⟨hk,⟨L,o,hf,hn,ho,hd⟩,hr⟩:=hl
   have hL:L∈X.fs:=hs L (by unfold frs; rw [List.filterMap_cons,hf]; exact List.mem_cons_self)
   obtain ⟨sl,e⟩:=I.base.slot L o ho (I.ok.frf L hL) hL fun z=>I.ok.exfs L z hL
   exact ⟨hk,⟨L,_,hf,hn,e,hd⟩,ih (fun b hb=>hs b (by unfold frs; rw [List.filterMap_cons,hf]; exact List.mem_cons_of_mem _ hb)) hr⟩
 exact all X.outer (fun _ hb=>hb) I.ok.funs

theorem Inv.stack (I:Inv X pins σ H s):s.heap.FunFrames X.base X.stack:=by
 rcases I.ok.stk with e | ⟨e,hf⟩
 ·rw [e]; exact I.funs
 ·rw [e]
  obtain ⟨m,hn,_⟩:=I.loc
  refine .cons (by rw [I.ok.kind]; decide) hf hn ?_ I.funs
  exact Heap.get?_none_of_le (Nat.le_trans I.ok.bsz I.ok.above)
theorem Inv.stkSub (I:Inv X pins σ H s):∀ b∈frs X.stack,b∈X.env.locals::X.fs:=fun b hb=>by
 rcases I.ok.stk with e | ⟨e,hf⟩
 ·rw [e] at hb; exact List.mem_cons_of_mem _ hb
 ·rw [e] at hb
  unfold frs at hb
  rw [List.filterMap_cons,hf] at hb
  exact hb
theorem Inv.stkFree (I:Inv X pins σ H s):∀ b∈frs X.stack,H b=none:=fun b hb=>by
 rcases List.mem_cons.mp (I.stkSub b hb) with e | hb
 ·rw [e]; exact I.free
 ·obtain ⟨_,o,ho,_⟩:=I.ok.funs.mem hb
  exact I.base.free b o ho (I.ok.frf b hb) fun z=>I.ok.exfs b z hb

theorem Inv.step {g':Array GenState} {t':Nat} {d':Drawn} {ch:List Addr} (I:Inv X pins σ H s)
  (hch:∀ b∈ch,(b∈X.ex∨X.s₀.heap.objs.size≤b)∧b≠X.env.locals∧(∀ x c,X.env.cells.lookup x=some c→c≠b)∧∀ p∈X.pn++pins,p.1≠b)
  (keep:∀ b o,b≠X.env.locals→b∉X.fs→b∉ch→s.heap.get? b=some o→H b=none→h'.get? b=some o)
  (slot:∀ b o,b≠X.env.locals→b∈X.fs→b∉ch→s.heap.get? b=some o→H b=none→∃ sl,h'.get? b=some { o with slots:=sl }) (free:∀ b o,b∉ch→s.heap.get? b=some o→H b=none→H' b=none)
  (there:∀ b o,b∉ch→s.heap.get? b=some o→∃ o',h'.get? b=some o')
  (tups:∀ b xs,H b=some (.tup xs)→H' b=some (.tup xs)) (frzs:∀ b o u,H b=some (.frz o u)→H' b=some (.frz o u)) (tbls:∀ b ps,H b=some (.tbl ps)→∃ more,H' b=some (.tbl (ps++more)))
  (ns:∀ m,s.heap.Ns X.env.locals m→h'.Ns X.env.locals m) (hok:HOk X.prog X.w H' h') (hg:AllBare g') :
  Inv X pins σ H' { s with heap:=h',gens:=g',drawn:=d',toks:=t' }:=by
 have neL:∀ b o,X.s₀.heap.get? b=some o→b≠X.env.locals:=fun b o e=>Nat.ne_of_lt (Nat.lt_of_lt_of_le (Heap.lt_size e) I.ok.above)
 have neC:∀ b o,X.s₀.heap.get? b=some o→b∉X.ex→b∉ch:=fun b o e hx hb=>by
  rcases (hch b hb).1 with z | z
  ·exact hx z
  ·exact absurd (Nat.lt_of_lt_of_le (Heap.lt_size e) z) (Nat.lt_irrefl _)
 have cellK:∀ x c,X.env.cells.lookup x=some c→∀ v,s.heap.IsCell c v→h'.IsCell c v:=fun x c e v ⟨o,ho,hd⟩=>by
  have nch:c∉ch:=fun z=>(hch c z).2.2.1 x c e rfl
  by_cases hc:c∈X.fs
  ·obtain ⟨sl,q⟩:=slot c o (I.cne x c e) hc nch ho (I.freeC x c e)
   exact ⟨_,q,hd⟩
  ·exact ⟨o,keep c o (I.cne x c e) hc nch ho (I.freeC x c e),hd⟩
 refine ⟨I.ok,I.os,hg,⟨fun b o e n hb hx=>?_,fun b o e n hb hx=>?_,fun b o e n hx=>?_,fun b o e hx=>?_,fun b xs e=>tups b xs (I.base.tups b xs e),fun b o xs e=>frzs b o xs (I.base.frzs b o xs e),fun b ps e=>?_⟩,?_,fun x c e=>?_,?_,fun x c e=>?_,fun p hp=>?_,hok,I.len⟩
 ·exact keep b o (neL b o e) hb (neC b o e hx) (I.base.keep b o e n hb hx) (I.base.free b o e n hx)
 ·obtain ⟨sl,e1⟩:=I.base.slot b o e n hb hx
  obtain ⟨sl',e2⟩:=slot b _ (neL b o e) hb (neC b o e hx) e1 (I.base.free b o e n hx)
  exact ⟨sl',e2⟩
 ·obtain ⟨o',e1⟩:=I.base.there b o e hx
  exact free b o' (neC b o e hx) e1 (I.base.free b o e n hx)
 ·obtain ⟨o',e1⟩:=I.base.there b o e hx
  exact there b o' (neC b o e hx) e1
 ·obtain ⟨m1,e1⟩:=I.base.tbls b ps e
  obtain ⟨m2,e2⟩:=tbls b _ e1
  exact ⟨m1++m2,by rw [e2,Array.append_assoc]⟩
 ·obtain ⟨m,hn,hl⟩:=I.loc
  refine ⟨m,ns m hn,fun i x v e1 e2 e3=>?_⟩
  obtain ⟨u,r,l⟩:=hl i x v e1 e2 e3
  refine ⟨u,r,?_⟩
  rcases l with l | ⟨k,c,e,z⟩
  ·exact .inl l
  ·exact .inr ⟨k,c,e,cellK x c e _ z⟩
 ·obtain ⟨v,z⟩:=I.cell x c e
  exact ⟨v,cellK x c e v z⟩
 ·obtain ⟨m,⟨o,_,_,ho,_⟩,_⟩:=I.loc
  exact free _ o (fun z=>(hch _ z).2.1 rfl) ho I.free
 ·obtain ⟨v,o,ho,hd⟩:=I.cell x c e
  exact free c o (fun z=>(hch c z).2.2.1 x c e rfl) ho (I.freeC x c e)
 ·obtain ⟨e,n,ne,nf,d⟩:=I.pin p hp
  have nch:p.1∉ch:=fun z=>(hch p.1 z).2.2.2 p hp rfl
  exact ⟨keep p.1 p.2 ne nf nch e n,free p.1 p.2 nch e n,ne,nf,d⟩
theorem Inv.un {t':Nat} (I:Inv X pins σ H s) (u:Un X.fs [] H H' s.heap h') (hok:HOk X.prog X.w H' h'):Inv X pins σ H' { s with heap:=h',toks:=t' }:=by
 obtain ⟨m,⟨o,es,ep,ho,r⟩,_⟩:=id I.loc
 obtain ⟨sl,hL⟩:=u.any ho I.free (by simp)
 exact I.step (g':=s.gens) (d':=s.drawn) (ch:=[]) (fun _ z=>nomatch z) (fun b o _ hb _ e n=>u.keep b o e n hb (by simp)) (fun b o _ hb _ e n=>u.slot b o e n hb (by simp)) (fun b o _ e n=>u.free b o e n (by simp)) (fun b o _ e=>u.there b o e (by simp)) u.tups u.frzs u.tbls (fun m' hm=>by
  obtain ⟨o',es',ep',ho',r'⟩:=hm
  rw [ho] at ho'; cases ho'
  exact ⟨_,es',ep',hL,r'⟩) hok I.bare
theorem Inv.call {g':Array GenState} {t':Nat} {d':Drawn} {ch:List Addr} (I:Inv X pins σ H s) (u:Un (frs X.stack) ch H H' s.heap h') (hok:HOk X.prog X.w H' h') (hg:AllBare g')
  (hch:∀ b∈ch,(b∈X.ex∨X.s₀.heap.objs.size≤b)∧b≠X.env.locals∧(∀ x c,X.env.cells.lookup x=some c→c≠b)∧∀ p∈X.pn++pins,p.1≠b) :
  Inv X pins σ H' { s with heap:=h',gens:=g',drawn:=d',toks:=t' }:=by
 obtain ⟨m,⟨o,es,ep,ho,r⟩,_⟩:=id I.loc
 obtain ⟨sl,hL⟩:=u.any ho I.free fun z=>(hch _ z).2.1 rfl
 exact I.step (ch:=ch) hch (fun b o hL hb hc e n=>u.keep b o e n (fun z=>(List.mem_cons.mp (I.stkSub b z)).elim hL hb) hc) (fun b o _ _ hc e n=>u.any e n hc) (fun b o hc e n=>u.free b o e n hc) (fun b o hc e=>u.there b o e hc) u.tups u.frzs u.tbls (fun m' hm=>by
  obtain ⟨o',es',ep',ho',r'⟩:=hm
  rw [ho] at ho'; cases ho'
  exact ⟨_,es',ep',hL,r'⟩) hok hg
theorem Inv.turned {t':Nat} {it:Addr} (I:Inv X pins σ H s) (k:∀ b o,b≠it→s.heap.get? b=some o→h'.get? b=some o) (hn:H it=none) (hL:it≠X.env.locals)
  (h1:it∈X.ex∨X.s₀.heap.objs.size≤it) (h2:∀ x c,X.env.cells.lookup x=some c→c≠it) (h3:∀ p∈X.pn++pins,p.1≠it):Inv X pins σ H { s with heap:=h',toks:=t' }:=by
 have nit:∀ b u,H b=some u→b≠it:=fun b u e z=>by rw [z,hn] at e; cases e
 refine I.step (g':=s.gens) (d':=s.drawn) (ch:=[it]) (fun b hb=>?_) (fun b o _ _ hc e _=>k b o (fun z=>hc (by simp [z])) e) (fun b o _ _ hc e _=>⟨o.slots,k b o (fun z=>hc (by simp [z])) e⟩) (fun _ _ _ _ n=>n)
  (fun b o hc e=>⟨o,k b o (fun z=>hc (by simp [z])) e⟩) (fun _ _ e=>e) (fun _ _ _ e=>e) (fun b ps e=>⟨#[],by rw [e]; simp⟩) (fun m hm=>?_) (fun b u e=>?_) I.bare
 ·have e:b=it:=by simpa using hb
  subst e
  exact ⟨h1,hL,h2,h3⟩
 ·obtain ⟨o,es,ep,ho,r⟩:=hm
  exact ⟨o,es,ep,k _ o (Ne.symm hL) ho,r⟩
 ·refine (I.hok b u e).stay (fun c v hc q=>k c v ?_ q) (fun _ q=>q) fun _ _ q=>q
  rcases hc with z | z
  ·rw [z]; exact nit b u e
  ·exact nit c _ z
theorem Inv.tok (I:Inv X pins σ H s) (t:Nat):Inv X pins σ H { s with toks:=t }:=I.un (h':=s.heap) (t':=t) Un.refl I.hok
theorem Inv.kept {t':Nat} (I:Inv X pins σ H s) (k:∀ b u,s.heap.get? b=some u→h'.get? b=some u):Inv X pins σ H { s with heap:=h',toks:=t' }:=I.un (Un.kept k) (I.hok.kept k)
theorem Inv.laid {a:Addr} {o:HO} {t':Nat} (I:Inv X pins σ H s) (k:∀ b u,s.heap.get? b=some u→h'.get? b=some u) (hp:s.heap.objs.size≤a) (new:ObjOk X.prog X.w (upd H a o) h' a o) :
  Inv X pins σ (upd H a o) { s with heap:=h',toks:=t' }:=I.un (Un.laid k hp (I.hok.fresh hp)) (I.hok.laid k hp new)
theorem Inv.write {x e:Addr} {o:HO} {t':Nat} (I:Inv X pins σ H s) (mu:Mut (H x)) (he:e=x∨H e=some (.own x)) (k:∀ b u,b≠e→s.heap.get? b=some u→h'.get? b=some u) (heo:∃ u,h'.get? e=some u)
  (new:ObjOk X.prog X.w (upd H x o) h' x o):Inv X pins σ (upd H x o) { s with heap:=h',toks:=t' }:=I.un (Un.write mu he k heo) (I.hok.write mu he k heo new)
theorem Inv.pins_of {pins':List (Addr×Obj)} (I:Inv X pins σ H s) (h:∀ p∈pins',s.heap.get? p.1=some p.2∧H p.1=none∧p.1≠X.env.locals∧p.1∉X.fs∧∀ v,p.2.data≠.cell v):Inv X pins' σ H s:=
 ⟨I.ok,I.os,I.bare,I.base,I.loc,I.cell,I.free,I.freeC,fun p hp=>(List.mem_append.mp hp).elim (fun z=>I.pin p (List.mem_append_left _ z)) (h p),I.hok,I.len⟩

theorem nodup_ix {N:List Str} (hN:N.Nodup) {i j:Nat} {x:Str} (a:N[i]?=some x) (b:N[j]?=some x):i=j:=by
 obtain ⟨h1,e1⟩:=List.getElem?_eq_some_iff.mp a
 obtain ⟨h2,e2⟩:=List.getElem?_eq_some_iff.mp b
 exact (List.getElem_inj hN).mp (e1.trans e2.symm)

theorem store_ok2 {M:Model} {A:Around} {E:Value→Shared→Prop} {i:Nat} {x:Str} {v:V} {u:Value} {Q:Unit→Shared→Prop} (I:Inv X pins σ H s) (hN:X.N.Nodup) (hi:X.N[i]?=some x) (hx:Loc X.env.scope x) (r:RelV v u)
  (h:∀ s',Inv X pins (σ.set i (some v)) H s'→(∃ a,Heap.SameBut a s.heap s'.heap∧(a=X.env.locals∨X.env.cells.lookup x=some a))→Q () s') (hf:X.fn x=true∨X.env.scope.names.lookup x=some .local:=by first | exact .inl rfl | exact .inr rfl | assumption):wpAny M A (storeName X.env x u) Q E s:=by
 obtain ⟨m,hn,hl⟩:=id I.loc
 have hcls:(X.env.scope.kind==.class||(X.env.scope.kind==.module&&X.env.locals != X.env.globals))=false:=by rw [I.ok.kind]; rfl
 have hiσ:i<σ.length:=by rw [I.len]; exact (List.getElem?_eq_some_iff.mp hi).1
 have cne:=I.cne
 have tracked:∀ {a:Addr} {h':Heap},(∃ o,s.heap.get? a=some o∧H a=none)→Heap.SameBut a s.heap h'→HOk X.prog X.w H h':=fun {a h'} ha hs b ob e=>by
  obtain ⟨_,_,hfree⟩:=ha
  refine (I.hok b ob e).stay (fun c w' hc q=>(hs.2 c ?_).trans q) (fun _ q=>q) fun _ _ q=>q
  rintro rfl
  rcases hc with rfl | hc
  ·rw [hfree] at e; cases e
  ·rw [hfree] at hc; cases hc
 rcases hx with hk | hk
 ·refine wpAny_storeName_local hk hn (fun h' hn' hs=>?_) hcls
  obtain ⟨oL,_,_,hoL,_⟩:=id hn
  refine h _ ⟨I.ok,I.os,I.bare,⟨fun b o e n hb hx=>?_,fun b o e n hb hx=>?_,I.base.free,fun b o e hx=>?_,I.base.tups,I.base.frzs,I.base.tbls⟩,⟨_,hn',fun j y v' e1 e2 e3=>?_⟩,fun y c e=>?_,I.free,I.freeC,fun p hp=>?_,tracked ⟨oL,hoL,I.free⟩ hs,by simpa using I.len⟩ ⟨_,hs,.inl rfl⟩
  ·exact (hs.2 b (Nat.ne_of_lt (Nat.lt_of_lt_of_le (Heap.lt_size e) I.ok.above))).trans (I.base.keep b o e n hb hx)
  ·obtain ⟨sl,e1⟩:=I.base.slot b o e n hb hx
   exact ⟨sl,(hs.2 b (Nat.ne_of_lt (Nat.lt_of_lt_of_le (Heap.lt_size e) I.ok.above))).trans e1⟩
  ·obtain ⟨o',e1⟩:=I.base.there b o e hx
   exact ⟨o',(hs.2 b (Nat.ne_of_lt (Nat.lt_of_lt_of_le (Heap.lt_size e) I.ok.above))).trans e1⟩
  ·by_cases hj:j=i
   ·subst hj
    rw [hi] at e1; cases e1
    rw [List.getElem?_set_self hiσ] at e2
    cases e2
    exact ⟨u,r,.inl ⟨hk,by simp⟩⟩
   ·rw [List.getElem?_set_ne (Ne.symm hj)] at e2
    obtain ⟨u',r',q⟩:=hl j y v' e1 e2 e3
    refine ⟨u',r',?_⟩
    rcases q with ⟨k,e⟩ | ⟨k,c,e,z⟩
    ·refine .inl ⟨k,?_⟩
     have:y≠x:=fun e=>hj (nodup_ix hN e1 (e▸hi))
     simp [this,e]
    ·exact .inr ⟨k,c,e,z.sameBut hs (cne y c e)⟩
  ·obtain ⟨w',z⟩:=I.cell y c e
   exact ⟨w',z.sameBut hs (cne y c e)⟩
  ·obtain ⟨e,n,ne,nf,d⟩:=I.pin p hp
   exact ⟨(hs.2 p.1 ne).trans e,n,ne,nf,d⟩
 ·have hfn:X.fn x=true:=by
   rcases hf with z | z
   ·exact z
   ·rw [z] at hk; cases hk
  obtain ⟨c,hc⟩:=I.ok.has x (.inl hk)
  obtain ⟨w',z⟩:=I.cell x c hc
  refine wpAny_storeName_cell I.ok.kind hk hc z (fun h' hc' hs=>?_)
  obtain ⟨oc,hoc,hocd⟩:=id z
  refine h { s with heap:=h' } ⟨I.ok,I.os,I.bare,⟨fun b o e n hb hx=>?_,fun b o e n hb hx=>?_,I.base.free,fun b o e hx=>?_,I.base.tups,I.base.frzs,I.base.tbls⟩,⟨m,hn.sameBut hs (Ne.symm (cne x c hc)),fun j y v' e1 e2 e3=>?_⟩,fun y c' e=>?_,I.free,I.freeC,fun p hp=>?_,tracked ⟨oc,hoc,I.freeC x c hc⟩ hs,by simpa using I.len⟩ ⟨c,hs,.inr hc⟩
  ·exact (hs.2 b (Nat.ne_of_lt (Nat.lt_of_lt_of_le (Heap.lt_size e) (I.ok.cab x c hfn hc)))).trans (I.base.keep b o e n hb hx)
  ·obtain ⟨sl,e1⟩:=I.base.slot b o e n hb hx
   exact ⟨sl,(hs.2 b (Nat.ne_of_lt (Nat.lt_of_lt_of_le (Heap.lt_size e) (I.ok.cab x c hfn hc)))).trans e1⟩
  ·obtain ⟨o',e1⟩:=I.base.there b o e hx
   exact ⟨o',(hs.2 b (Nat.ne_of_lt (Nat.lt_of_lt_of_le (Heap.lt_size e) (I.ok.cab x c hfn hc)))).trans e1⟩
  ·by_cases hj:j=i
   ·subst hj
    rw [hi] at e1; cases e1
    rw [List.getElem?_set_self hiσ] at e2
    cases e2
    exact ⟨u,r,.inr ⟨.inl hk,c,hc,hc'⟩⟩
   ·rw [List.getElem?_set_ne (Ne.symm hj)] at e2
    obtain ⟨u',r',q⟩:=hl j y v' e1 e2 e3
    refine ⟨u',r',?_⟩
    rcases q with q | ⟨k,c',e,z'⟩
    ·exact .inl q
    ·refine .inr ⟨k,c',e,z'.sameBut hs ?_⟩
     rintro rfl
     exact hj (nodup_ix hN e1 (I.ok.inj _ _ _ e hc▸hi))
  ·by_cases hcc:c'=c
   ·subst hcc; exact ⟨_,hc'⟩
   ·obtain ⟨w2,z2⟩:=I.cell y c' e
    exact ⟨w2,z2.sameBut hs hcc⟩
  ·obtain ⟨e,n,ne,nf,d⟩:=I.pin p hp
   refine ⟨(hs.2 p.1 ?_).trans e,n,ne,nf,d⟩
   intro q
   rw [q,hoc] at e
   have q':oc=p.2:=Option.some.inj e
   exact d w' (by rw [← q']; exact hocd)
theorem store_ok {M:Model} {A:Around} {E:Value→Shared→Prop} {i:Nat} {x:Str} {v:V} {u:Value} {Q:Unit→Shared→Prop} (I:Inv X pins σ H s) (hN:X.N.Nodup) (hi:X.N[i]?=some x) (hx:Loc X.env.scope x) (r:RelV v u)
  (h:∀ s',Inv X pins (σ.set i (some v)) H s'→Q () s') (hf:X.fn x=true∨X.env.scope.names.lookup x=some .local:=by first | exact .inl rfl | exact .inr rfl | assumption):wpAny M A (storeName X.env x u) Q E s:=
 store_ok2 I hN hi hx r (fun s' I' _=>h s' I') hf
theorem Inv.call' {s':Shared} {ch:List Addr} (I:Inv X pins σ H s) (ho:s'.os=s.os) (u:Un (frs X.stack) ch H H' s.heap s'.heap) (hok:HOk X.prog X.w H' s'.heap) (hg:AllBare s'.gens)
  (hch:∀ b∈ch,(b∈X.ex∨X.s₀.heap.objs.size≤b)∧b≠X.env.locals∧(∀ x c,X.env.cells.lookup x=some c→c≠b)∧∀ p∈X.pn++pins,p.1≠b):Inv X pins σ H' s':=by
 obtain ⟨h',g',d',t',o'⟩:=s'
 have e:o'=s.os:=ho
 subst e
 exact I.call (g':=g') (t':=t') (d':=d') u hok hg hch
end

noncomputable abbrev XK:=Value→Option Addr→Hp→Prop
noncomputable abbrev St:=List (Option V)
noncomputable abbrev VK:=V→Hp→Prop
noncomputable abbrev TE:=St→Hp→VK→Prop
noncomputable abbrev TT:=St→Hp→(Bool→Hp→Prop)→Prop
noncomputable abbrev TA:=St→Hp→(List V→Hp→Prop)→Prop
structure Ends where
 nx:St→Hp→Prop
 rt:VK
 bk:St→Hp→Prop:=fun _ _=>False
 ct:St→Hp→Prop:=fun _ _=>False
noncomputable abbrev TS:=Ends→St→Hp→Prop

inductive EP (X:Cx) (pins:List (Addr×Obj)) (σ:St) (Q:VK) (u:Value) (s':Shared):Prop
 | mk (v:_) (H':_) (h0_:Inv X pins σ H' s') (h1_:RelV v u) (h2_:Q v H')
inductive TP (X:Cx) (pins:List (Addr×Obj)) (σ:St) (Q:Bool→Hp→Prop) (b:Bool) (s':Shared):Prop
 | mk (H':_) (h0_:Inv X pins σ H' s') (h1_:Q b H')
inductive AP (X:Cx) (pins:List (Addr×Obj)) (σ:St) (Q:List V→Hp→Prop) (us:List Value) (s':Shared):Prop
 | mk (vs:_) (H':_) (h0_:Inv X pins σ H' s') (h1_:Vals vs us) (h2_:Q vs H')
noncomputable def SP (X:Cx) (pins:List (Addr×Obj)) (D:Ends) (f:Flow) (s':Shared):Prop:=
 match f with
 | .next=>∃ σ' H',Inv X pins σ' H' s'∧D.nx σ' H'
 | .brk=>∃ σ' H',Inv X pins σ' H' s'∧D.bk σ' H'
 | .cont=>∃ σ' H',Inv X pins σ' H' s'∧D.ct σ' H'
 | .ret u=>∃ v σ' H',Inv X pins σ' H' s'∧RelV v u∧D.rt v H'

noncomputable def PE (X:Cx) (e:Expr) (t:TE):Prop:=
 ∀ (pins:List (Addr×Obj)) (s:Shared) (σ:St) (H:Hp) (Q:VK),Inv X pins σ H s→t σ H Q→wpAny (model X.prog X.w) X.A (eval e X.env) (EP X pins σ Q) X.xe s
noncomputable def PT (X:Cx) (e:Expr) (t:TT):Prop:=
 ∀ (pins:List (Addr×Obj)) (s:Shared) (σ:St) (H:Hp) (Q:Bool→Hp→Prop),Inv X pins σ H s→t σ H Q→wpAny (model X.prog X.w) X.A (isTrue e X.env (eval e X.env)) (TP X pins σ Q) X.xe s
noncomputable def PW (X:Cx) (e:Expr) (t:TT):Prop:=
 ∀ (whole:Sem Value) (pins:List (Addr×Obj)) (s:Shared) (σ:St) (H:Hp) (Q:Bool→Hp→Prop),Inv X pins σ H s→t σ H Q→wpAny (model X.prog X.w) X.A (isTrue e X.env whole) (TP X pins σ Q) X.xe s
theorem PW.pt {X:Cx} {e:Expr} {t:TT} (h:PW X e t):PT X e t:=h _
noncomputable def PA (X:Cx) (es:List Expr) (t:TA):Prop:=
 ∀ (pos:Pos) (pins:List (Addr×Obj)) (s:Shared) (σ:St) (H:Hp) (Q:List V→Hp→Prop),Inv X pins σ H s→t σ H Q→wpAny (model X.prog X.w) X.A (spliced (backTo pos (starEach es X.env))) (AP X pins σ Q) X.xe s
noncomputable def PS (X:Cx) (st:Stmt) (t:TS):Prop:=
 ∀ (pins:List (Addr×Obj)) (s:Shared) (σ:St) (H:Hp) (D:Ends),Inv X pins σ H s→t D σ H→wpAny (model X.prog X.w) X.A (exec st X.env) (SP X pins D) X.xe s
noncomputable def PSs (X:Cx) (st:List Stmt) (t:TS):Prop:=
 ∀ (pins:List (Addr×Obj)) (s:Shared) (σ:St) (H:Hp) (D:Ends),Inv X pins σ H s→t D σ H→wpAny (model X.prog X.w) X.A (execs st X.env) (SP X pins D) X.xe s
theorem thn {α:Type} {t:Sem α} {Q Q':α→Shared→Prop} {M:Model} {A:Around} {E:Value→Shared→Prop} {s:Shared} (h:wpAny M A t Q E s) (hQ:∀ a s,Q a s→Q' a s):wpAny M A t Q' E s:=wpAny_mono h hQ fun _ _ x=>x
end L2

namespace L2
open PySem PySem.Spec PyProof.Rows
section
variable {X:Cx}


inductive tVar (i:Nat) (σ:St) (H:Hp) (Q:VK):Prop
 | mk (v:_) (h0_:σ[i]?=some (some v)) (h1_:Q v H)
noncomputable def tC (v:V):TE:=fun _ H Q=>Q v H
theorem pe_var {i:Nat} {x:Str} {pos:Pos} (hN:X.N[i]?=some x) (hv:Vis X.env.scope x) (hd:(x==("__debug__" : Str))=false:=by decide) (hcd:(x==("__classdict__" : Str))=false:=by decide):PE X (.Name x pos) (tVar i):=by
 intro pins s σ H Q I h
 obtain ⟨v,e,h⟩:=h
 obtain ⟨m,hn,hl⟩:=I.loc
 obtain ⟨u,r,l⟩:=hl i x v hN e hv
 have fin:EP X pins σ Q u s:=⟨v,H,I,r,h⟩
 rcases l with ⟨hk,hm⟩ | ⟨hk,c,hc,hcell⟩
 ·exact wpAny_Name (wpAny_loadName_local I.ok.kind hk hn hm fin) hd
 ·rcases hk with hk | hk
  ·exact wpAny_Name (wpAny_loadName_cell I.ok.kind hk hc hcell fin) hd
  ·exact wpAny_Name (wpAny_loadName_free I.ok.kind hk hc hcell fin hcd) hd
theorem pe_int {i j pos}:PE X (.Constant (.int i) j pos) (tC (.int i)):=fun _ _ _ H _ I h=>wpAny_Constant_int ⟨.int i,H,I.tok _,⟨_,rfl⟩,h⟩
theorem pe_bl {b j pos}:PE X (.Constant (.bool b) j pos) (tC (.bl b)):=fun _ _ _ H _ I h=>Constant_bool ⟨.bl b,H,I,rfl,h⟩
theorem pe_non {j pos}:PE X (.Constant .none j pos) (tC .non):=fun _ _ _ H _ I h=>Constant_none ⟨.non,H,I,rfl,h⟩
theorem pe_str {x j pos}:PE X (.Constant (.str x) j pos) (tC (.str x)):=fun _ _ _ H _ I h=>Calls.Constant_str ⟨.str x,H,I.tok _,⟨_,rfl⟩,h⟩

noncomputable def Gl (X:Cx) (x:Str):Prop:=X.env.kindOf x=some .globalImplicit
theorem ld_glob {E:Value→Shared→Prop} {pins:List (Addr×Obj)} {s:Shared} {σ:St} {H:Hp} {x:Str} {u:Value} {pos:Pos} {Q:Value→Shared→Prop} (I:Inv X pins σ H s) (hg:Gl X x) (hm:X.mg x=some u) (h:Q u s)
  (hd:(x==("__debug__" : Str))=false:=by decide):wpAny (model X.prog X.w) X.A (eval (.Name x pos) X.env) Q E s:=
 Calls.Name_function_global I.ok.kind hg (Calls.loadGlobal_global (by rw [I.ok.glob]; exact I.mod.glob.keeps I.bk) hm h) hd
theorem ld_blt {E:Value→Shared→Prop} {pins:List (Addr×Obj)} {s:Shared} {σ:St} {H:Hp} {x:Str} {u:Value} {pos:Pos} {Q:Value→Shared→Prop} (I:Inv X pins σ H s) (hg:Gl X x) (hm:X.mg x=none) (hv:bootBuiltins x=some u) (h:Q u s)
  (hn:x≠"__name__" := by decide) (hd:(x==("__debug__" : Str))=false:=by decide):wpAny (model X.prog X.w) X.A (eval (.Name x pos) X.env) Q E s:=by
 obtain ⟨mb,h1,h2⟩:=I.mod.blt
 exact Calls.Name_function_global I.ok.kind hg (Calls.loadGlobal_builtin (by rw [I.ok.glob]; exact I.mod.glob.keeps I.bk) hm (by rw [I.ok.blt]; exact h1.keeps I.bk) ((h2 x hn).trans hv) h) hd
theorem pe_glob {x:Str} {v:V} {u:Value} {pos:Pos} (hg:Gl X x) (hm:X.mg x=some u) (r:RelV v u) (hd:(x==("__debug__" : Str))=false:=by decide):PE X (.Name x pos) (tC v):=
 fun _ _ _ H _ I h=>ld_glob I hg hm ⟨v,H,I,r,h⟩ hd
theorem pe_bltn {x:Str} {v:V} {u:Value} {pos:Pos} (hg:Gl X x) (hm:X.mg x=none) (hv:bootBuiltins x=some u) (r:RelV v u) (hn:x≠"__name__" := by decide) (hd:(x==("__debug__" : Str))=false:=by decide):PE X (.Name x pos) (tC v):=
 fun _ _ _ H _ I h=>ld_blt I hg hm hv ⟨v,H,I,r,h⟩ hn hd

variable {a b:Expr} {ta tb:TE} {pos:Pos}

noncomputable def PC (X:Cx) (op:CmpOp) (a b:Expr) (t:TE):Prop:=
 ∀ (pins:List (Addr×Obj)) (s:Shared) (σ:St) (H:Hp) (Q:VK),Inv X pins σ H s→t σ H Q →
  wpAny (model X.prog X.w) X.A (eval a X.env) (fun v s₁=>wpAny (model X.prog X.w) X.A (eval b X.env) (fun u s₂=>wpAny (model X.prog X.w) X.A (compareOp op v u) (EP X pins σ Q) X.xe s₂) X.xe s₁) X.xe s
noncomputable def tB (t:TE):TT:=fun σ H Q=>t σ H fun x H1=>∃ c,x=.bl c∧Q c H1
theorem pe_cmp {op:CmpOp} {t:TE} (h:PC X op a b t) (h1:behindInMarks op b=false:=by first | exact nobehind _ (by decide) (by decide) | rfl):PE X (.Compare a [op] [b] pos) t:=fun pins s σ H Q I hw=>wpAny_Compare1 (h pins s σ H Q I hw) h1
theorem pt_cmp {op:CmpOp} {t:TE} (h:PC X op a b t) (h1:behindInMarks op b=false:=by first | exact nobehind _ (by decide) (by decide) | rfl):PT X (.Compare a [op] [b] pos) (tB t):=by
 intro pins s σ H Q I hw
 refine wpAny_isTrue_Compare1 (thn (h pins s σ H _ I hw) fun v s1 h1=>thn h1 fun u s2 h2=>thn h2 fun c s3 ⟨x,H1,I1,r1,q1⟩=>?_) h1
 obtain ⟨d,rfl,q⟩:=q1
 cases r1
 exact wpAny_truthy_bool ⟨H1,I1,q⟩
theorem pt_val {e:Expr} {t:TE} (h:PE X e t) (he:∀ whole,isTrue e X.env whole=(do let v ← whole; standAt e.pos; holding [v] (truthy v)):=by intro _; rfl):PT X e (tB t):=by
 intro pins s σ H Q I hw
 refine isTrue_plain (thn (h pins s σ H _ I hw) fun v s1 ⟨x,H1,I1,r1,q1⟩=>?_) (he _)
 obtain ⟨d,rfl,q⟩:=q1
 cases r1
 exact wpAny_truthy_bool ⟨H1,I1,q⟩

variable {tA tB':TT} {rest:List Expr}
noncomputable def tAnd (t u:TT):TT:=fun σ H Q=>t σ H fun c H1=>if c=true then u σ H1 Q else Q false H1
noncomputable def tOr (t u:TT):TT:=fun σ H Q=>t σ H fun c H1=>if c=true then Q true H1 else u σ H1 Q
noncomputable def tNot (t:TT):TT:=fun σ H Q=>t σ H fun c H1=>Q (!c) H1
theorem pw_and1 (ha:PT X a tA):PW X (.BoolOp .And [a] pos) tA:=by
 intro wh pins s σ H Q I h
 refine isTrue_and (thn (ha pins s σ H Q I h) fun c s1 e=>?_)
 cases c with
 | true=>exact isTrue_and_nil e
 | false=>exact e
theorem pw_or1 (ha:PT X a tA):PW X (.BoolOp .Or [a] pos) tA:=by
 intro wh pins s σ H Q I h
 refine isTrue_or (thn (ha pins s σ H Q I h) fun c s1 e=>?_)
 cases c with
 | false=>exact isTrue_or_nil e
 | true=>exact e
theorem pw_and (ha:PT X a tA) (hb:PW X (.BoolOp .And (b::rest) pos) tB'):PW X (.BoolOp .And (a::b::rest) pos) (tAnd tA tB'):=by
 intro wh pins s σ H Q I h
 refine isTrue_and (thn (ha pins s σ H _ I h) fun c s1 ⟨H1,I1,q1⟩=>?_)
 cases c with
 | true=>exact hb wh pins s1 σ H1 Q I1 q1
 | false=>exact ⟨H1,I1,q1⟩
theorem pw_or (ha:PT X a tA) (hb:PW X (.BoolOp .Or (b::rest) pos) tB'):PW X (.BoolOp .Or (a::b::rest) pos) (tOr tA tB'):=by
 intro wh pins s σ H Q I h
 refine isTrue_or (thn (ha pins s σ H _ I h) fun c s1 ⟨H1,I1,q1⟩=>?_)
 cases c with
 | true=>exact ⟨H1,I1,q1⟩
 | false=>exact hb wh pins s1 σ H1 Q I1 q1
theorem pt_not (ha:PT X a tA):PT X (.UnaryOp .Not a pos) (tNot tA):=by
 intro pins s σ H Q I h
 exact isTrue_not (thn (ha pins s σ H (fun c H1=>Q (!c) H1) I h) fun c s1 ⟨H',I',q⟩=>⟨H',I',q⟩)
inductive IsBl (x:V) (H:Hp) (Q:Bool→Hp→Prop):Prop
 | mk (k:Bool) (h:x=.bl k) (q:Q k H)
noncomputable def tAndV (ta tb:TE):TE:=fun σ H Q=>ta σ H fun x H1=>IsBl x H1 fun c H1=>if c=true then tb σ H1 Q else Q (.bl false) H1
theorem pe_one {op} {t:TE} (h:PE X a t):PE X (.BoolOp op [a] pos) t:=fun pins s σ H Q I hw=>BoolOp_one (h pins s σ H Q I hw)
theorem pe_and (ha:PE X a ta) (hb:PE X (.BoolOp .And (b::rest) pos) tb):PE X (.BoolOp .And (a::b::rest) pos) (tAndV ta tb):=by
 intro pins s σ H Q I h
 refine BoolOp_and (thn (ha pins s σ H _ I h) fun v s1 ⟨x,H1,I1,r1,q1⟩=>?_)
 obtain ⟨c,rfl,q1⟩:=q1
 cases r1
 refine wpAny_truthy_bool ?_
 cases c with
 | true=>exact hb pins s1 σ H1 Q I1 q1
 | false=>exact ⟨.bl false,H1,I1,rfl,q1⟩
noncomputable def tIf (t:TT) (ta tb:TE):TE:=fun σ H Q=>t σ H fun c H1=>if c=true then ta σ H1 Q else tb σ H1 Q
theorem pe_ifExp {c:Expr} (hc:PT X c tA) (ha:PE X a ta) (hb:PE X b tb):PE X (.IfExp c a b pos) (tIf tA ta tb):=by
 intro pins s σ H Q I h
 refine wpAny_IfExp (thn (hc pins s σ H _ I h) fun d s1 ⟨H1,I1,q1⟩=>?_)
 cases d with
 | true=>exact ha pins s1 σ H1 Q I1 q1
 | false=>exact hb pins s1 σ H1 Q I1 q1
end
end L2

namespace L2
open PySem PySem.Spec PyProof.Rows

noncomputable def SqL (K:PySem.W.Frag) (H:Hp) (a:Addr) (xs:List V):Prop:=
 Rd H a (.lst xs) ∨
  ∃ (o:Obj) (its:Array Value) (n:Nat),K.lookup a=some o∧o.cls=.type "list" ∧ o.dict=none∧o.data=.seq its n∧its.size≤sizeLine∧Vals xs its.toList
noncomputable def SqT (K:PySem.W.Frag) (H:Hp) (a:Addr) (xs:List V):Prop:=
 Rd H a (.tup xs) ∨
  ∃ (o:Obj) (its:Array Value) (n:Nat),K.lookup a=some o∧o.cls=.type "tuple" ∧ o.data=.seq its n∧its.size≤sizeLine∧Vals xs its.toList
noncomputable def absV:Value→Option V
 | .none=>some .non
 | .bool b=>some (.bl b)
 | .int i _=>some (.int i)
 | .str x _=>some (.str x)
 | .bytes b _=>some (.byt b)
 | .float b _=>some (.flt b)
 | .ref a=>some (.ref a)
 | .type n=>some (.ty n)
 | _=>none
theorem RelV.abs {x:V} {u:Value} (r:RelV x u):absV u=some x:=by
 cases x with
 | non=>cases r; rfl
 | bl _=>cases r; rfl
 | int _=>obtain ⟨t,rfl⟩:=r; rfl
 | str _=>obtain ⟨t,rfl⟩:=r; rfl
 | byt _=>obtain ⟨t,rfl⟩:=r; rfl
 | flt _=>obtain ⟨t,rfl⟩:=r; rfl
 | ref _=>cases r; rfl
 | ty _=>cases r; rfl
theorem RelV.inj {x y:V} {u:Value} (r:RelV x u) (q:RelV y u):x=y:=Option.some.inj (r.abs.symm.trans q.abs)
theorem Vals.inj:∀ {xs ys:List V} {us:List Value},Vals xs us→Vals ys us→xs=ys
 | _,_,_,.nil,.nil=>rfl
 | _,_,_,.cons r t,.cons r' t'=>by rw [r.inj r',Vals.inj t t']
section
variable {X:Cx} {pins:List (Addr×Obj)} {σ:St} {H:Hp} {s:Shared} {a:Addr} {xs ys:List V}
theorem SqL.of {K:PySem.W.Frag} (h:H a=some (.lst xs)):SqL K H a xs:=.inl (.inl h)
theorem SqT.of {K:PySem.W.Frag} (h:H a=some (.tup xs)):SqT K H a xs:=.inl (.inl h)
theorem Inv.list (I:Inv X pins σ H s) (h:SqL X.K H a xs):∃ its:List Value,Vals xs its∧PlainL s.heap a its.toArray∧xs.length≤sizeLine:=by
 rcases h with h | ⟨o,its,n,hk,hc,hd,hs,hz,r⟩
 ·obtain ⟨z,its,n,r,e⟩:=h.ok I.hok
  exact ⟨its,r,⟨_,n,e,rfl,rfl,rfl⟩,z⟩
 ·refine ⟨its.toList,r,⟨o,n,I.kIn a o hk,hc,hd,by simpa using hs⟩,?_⟩
  have e:=r.length
  simp only [Array.length_toList] at e
  omega
theorem Inv.tuple (I:Inv X pins σ H s) (h:SqT X.K H a xs):∃ its:List Value,Vals xs its∧IsTup s.heap a its.toArray∧xs.length≤sizeLine:=by
 rcases h with h | ⟨o,its,n,hk,hc,hs,hz,r⟩
 ·obtain ⟨z,its,r,p⟩:=h.ok I.hok
  exact ⟨its,r,p,z⟩
 ·refine ⟨its.toList,r,⟨o,I.kIn a o hk,hc,n,by simpa using hs⟩,?_⟩
  have e:=r.length
  simp only [Array.length_toList] at e
  omega
theorem Inv.list_inj (I:Inv X pins σ H s) (h:SqL X.K H a xs) (h':SqL X.K H a ys):xs=ys:=by
 obtain ⟨its,r,⟨o,n,e,_,_,d⟩,_⟩:=I.list h
 obtain ⟨its',r',⟨o',n',e',_,_,d'⟩,_⟩:=I.list h'
 rw [e] at e'; cases e'
 rw [d] at d'
 injection d' with d1 _
 have:its=its':=by simpa using congrArg Array.toList d1
 subst this
 exact r.inj r'
end

noncomputable abbrev Cx.wish (X:Cx) (E:Value→Shared→Prop):Cx:={ X with xe:=E }
noncomputable abbrev Cx.nox (X:Cx):Cx:=X.wish fun _ _=>False
theorem Cx.Ok.wish {X:Cx} (ok:X.Ok) (E:Value→Shared→Prop):(X.wish E).Ok:=
 ⟨ok.mod,ok.kind,ok.glob,ok.blt,ok.above,ok.inj,ok.has,ok.cab,ok.hd,ok.frames,ok.stk,ok.exf,ok.bs,ok.bsz,ok.noex,ok.exfs,ok.funs,ok.frf⟩
theorem Cx.Ok.unwish {X:Cx} {E:Value→Shared→Prop} (ok:(X.wish E).Ok):X.Ok:=
 ⟨ok.mod,ok.kind,ok.glob,ok.blt,ok.above,ok.inj,ok.has,ok.cab,ok.hd,ok.frames,ok.stk,ok.exf,ok.bs,ok.bsz,ok.noex,ok.exfs,ok.funs,ok.frf⟩
section
variable {X:Cx} {pins:List (Addr×Obj)} {σ:St} {H:Hp} {s:Shared} {E:Value→Shared→Prop}
theorem Inv.wish (I:Inv X pins σ H s) (E:Value→Shared→Prop):Inv (X.wish E) pins σ H s:=⟨I.ok.wish E,I.os,I.bare,I.base,I.loc,I.cell,I.free,I.freeC,I.pin,I.hok,I.len⟩
theorem Inv.unwish (I:Inv (X.wish E) pins σ H s):Inv X pins σ H s:=⟨I.ok.unwish,I.os,I.bare,I.base,I.loc,I.cell,I.free,I.freeC,I.pin,I.hok,I.len⟩
theorem SP.unwish {D:Ends} {f:Flow} {s':Shared} (h:SP (X.wish E) pins D f s'):SP X pins D f s':=by
 cases f with
 | next=>obtain ⟨σ',H',I,q⟩:=h; exact ⟨σ',H',I.unwish,q⟩
 | brk=>obtain ⟨σ',H',I,q⟩:=h; exact ⟨σ',H',I.unwish,q⟩
 | cont=>obtain ⟨σ',H',I,q⟩:=h; exact ⟨σ',H',I.unwish,q⟩
 | ret u=>obtain ⟨v,σ',H',I,r,q⟩:=h; exact ⟨v,σ',H',I.unwish,r,q⟩
theorem PSs.nox {st:List Stmt} {t:TS} (h:PSs X.nox st t):PSs X st t:=fun pins s σ H D I hw=>
 wpAny_mono (h pins s σ H D (I.wish _) hw) (fun _ _ q=>q.unwish) fun _ _ z=>False.elim z
end

section
variable {X:Cx} {st:Stmt} {rest:List Stmt} {t u:TS} {e:Expr} {te:TE} {pos:Pos}
noncomputable def tNext:TS:=fun D σ H=>D.nx σ H
noncomputable def tSeq (t u:TS):TS:=fun D σ H=>t { D with nx:=u D } σ H
theorem pss_nil:PSs X [] tNext:=fun _ _ σ H _ I h=>wpAny_execs_nil ⟨σ,H,I,h⟩
theorem pss_cons (h1:PS X st t) (h2:PSs X rest u):PSs X (st::rest) (tSeq t u):=by
 intro pins s σ H D I h
 refine wpAny_execs_cons (thn (h1 pins s σ H { D with nx:=u D } I h) fun f s1 q=>?_)
 cases f with
 | next=>
  obtain ⟨σ',H',I',q⟩:=q
  exact h2 pins s1 σ' H' D I' q
 | ret v=>exact q
 | brk=>exact q
 | cont=>exact q
theorem pss_one (h1:PS X st t):PSs X [st] t:=by
 intro pins s σ H D I h
 refine wpAny_execs_cons (thn (h1 pins s σ H D I h) fun f s1 q=>?_)
 cases f with
 | next=>exact wpAny_execs_nil q
 | ret v=>exact q
 | brk=>exact q
 | cont=>exact q
theorem Inv.quiet {pins:List (Addr×Obj)} {σ:St} {H:Hp} {s:Shared} (I:Inv X pins σ H s):interactive X.env=false:=by simp [interactive,I.ok.kind]
noncomputable def tDrop (te:TE):TS:=fun D σ H=>te σ H fun _ H1=>D.nx σ H1
theorem ps_expr (he:PE X e te) (hs:swapsWith e none pos.line X.env=pure false:=by rfl):PS X (.Expr e pos) (tDrop te):=by
 intro pins s σ H D I h
 exact wpAny_Expr_any (thn (he pins s σ H _ I h) fun v s1 ⟨x,H1,I1,r1,q1⟩=>⟨σ,H1,I1,q1⟩) I.quiet hs
noncomputable def tRet (te:TE):TS:=fun D σ H=>te σ H D.rt
theorem ps_ret (he:PE X e te):PS X (.Return (some e) pos) (tRet te):=by
 intro pins s σ H D I h
 exact wpAny_Return_some (thn (he pins s σ H _ I h) fun v s1 ⟨x,H1,I1,r1,q1⟩=>⟨x,σ,H1,I1,r1,q1⟩)
noncomputable def tIfS (c:TT) (t u:TS):TS:=fun D σ H=>c σ H fun b H1=>if b=true then t D σ H1 else u D σ H1
theorem ps_if {c:Expr} {a b:List Stmt} {tc:TT} (hc:PT X c tc) (ha:PSs X a t) (hb:PSs X b u):PS X (.If c a b pos) (tIfS tc t u):=by
 intro pins s σ H D I h
 refine wpAny_If (thn (hc pins s σ H _ I h) fun d s1 ⟨H1,I1,q1⟩=>?_)
 cases d with
 | true=>exact ha pins s1 σ H1 D I1 q1
 | false=>exact hb pins s1 σ H1 D I1 q1
end

noncomputable abbrev TG:=V→St→Hp→(St→Hp→Prop)→Prop
noncomputable abbrev TGs:=List V→St→Hp→(St→Hp→Prop)→Prop
noncomputable def PG (X:Cx) (target:Expr) (t:TG):Prop:=
 ∀ (pins:List (Addr×Obj)) (s:Shared) (σ:St) (H:Hp) (v:V) (u:Value) (Q:St→Hp→Prop),Inv X pins σ H s→RelV v u→t v σ H Q →
  wpAny (model X.prog X.w) X.A (assign target X.env u) (fun _ s'=>∃ σ' H',Inv X pins σ' H' s'∧Q σ' H') X.xe s
noncomputable def PGs (X:Cx) (ts:List Expr) (t:TGs):Prop:=
 ∀ (pins:List (Addr×Obj)) (s:Shared) (σ:St) (H:Hp) (vs:List V) (us:List Value) (Q:St→Hp→Prop),Inv X pins σ H s→Vals vs us→t vs σ H Q →
  wpAny (model X.prog X.w) X.A (assignInOrder ((assignEach ts X.env).map (·.2)) us) (fun _ s'=>∃ σ' H',Inv X pins σ' H' s'∧Q σ' H') X.xe s
section
variable {X:Cx} {pos:Pos}
noncomputable def gName (i:Nat):TG:=fun v σ H Q=>Q (σ.set i (some v)) H
theorem pg_name {i:Nat} {x:Str} (hN:X.N.Nodup) (hi:X.N[i]?=some x) (hx:Loc X.env.scope x) (hf:X.fn x=true∨X.env.scope.names.lookup x=some .local:=by first | exact .inl rfl | exact .inr rfl | assumption):PG X (.Name x pos) (gName i):=by
 intro pins s σ H v u Q I r h
 exact wpAny_assign_Name (store_ok I hN hi hx r (fun s' I'=>⟨_,H,I',h⟩) hf)
noncomputable def gNil:TGs:=fun vs σ H Q=>vs=[]∧Q σ H
inductive gCons (t:TG) (u:TGs) (vs:List V) (σ:St) (H:Hp) (Q:St→Hp→Prop):Prop
 | mk (v:V) (r:List V) (h1:vs=v::r) (q:t v σ H fun σ' H'=>u r σ' H' Q)

theorem pgs_nil:PGs X [] gNil:=by
 intro pins s σ H vs us Q I r h
 obtain ⟨e,h⟩:=h
 subst e
 cases r
 exact assignInOrder_nil ⟨σ,H,I,h⟩
theorem pgs_cons {e:Expr} {es:List Expr} {t:TG} {u:TGs} (h1:PG X e t) (h2:PGs X es u)
  (hs:(assignEach (e::es) X.env).map (·.2)=assign e X.env::(assignEach es X.env).map (·.2):=by rfl):PGs X (e::es) (gCons t u):=by
 intro pins s σ H vs us Q I r h
 obtain ⟨v,vr,e1,h⟩:=h
 subst e1
 cases r with
 | cons r rr=>
  rw [hs]
  refine assignInOrder_cons (thn (h1 pins s σ H _ _ _ I r h) fun _ s1 ⟨σ1,H1,I1,q1⟩=>?_)
  exact h2 pins s1 σ1 H1 _ _ Q I1 rr q1
inductive gTup (K:PySem.W.Frag) (n:Nat) (t:TGs) (v:V) (σ:St) (H:Hp) (Q:St→Hp→Prop):Prop
 | mk (a:Addr) (xs:List V) (h1:v=.ref a) (h2:SqT K H a xs) (h3:xs.length=n) (q:t xs σ H Q)

theorem pg_tup {es:List Expr} {k:Nat} {t:TGs} {n:Nat} (hc:X.calm=true) (h:PGs X es t)
  (hn:(assignEach es X.env).length=n:=by rfl) (hst:(assignEach es X.env).findIdx? (·.1)=none:=by rfl):PG X (.Tuple es k pos) (gTup X.K n t):=by
 intro pins s σ H v u Q I r hw
 obtain ⟨a,xs,e1,hq,hl,hw⟩:=hw
 subst e1
 cases r
 obtain ⟨its,rv,ht,hz⟩:=I.tuple hq
 refine assign_Tuple_tuple (I.ok.hd hc) ht (by simp [hn,← hl,rv.length]) hst fun h' hx=>?_
 have I1:Inv X pins σ H { s with heap:=h' }:=I.kept (t':=s.toks) fun b o e=>hx b o (Nat.ne_of_lt (Heap.lt_size e)) e
 exact h pins _ σ H xs _ Q I1 (by simpa using rv) hw
noncomputable def tAsg (te:TE) (g:TG):TS:=fun D σ H=>te σ H fun x H1=>g x σ H1 D.nx
theorem ps_asg {tg e:Expr} {te:TE} {g:TG} (he:PE X e te) (hg:PG X tg g) (hs:swapsWithSole [tg] e pos.line X.env=pure false:=by rfl) (hw:swappedStores [tg] e X.env=pure none:=by rfl)
  (h1:(assignEach [tg] X.env).map (·.2)=[assign tg X.env]:=by rfl):PS X (.Assign [tg] e pos) (tAsg te g):=by
 intro pins s σ H D I h
 refine wpAny_Assign_stores (thn (he pins s σ H _ I h) fun v s1 ⟨x,H1,I1,r1,q1⟩=>?_) hs hw
 rw [h1]
 exact thn (hg pins s1 σ H1 x v _ I1 r1 q1) fun _ s2 q=>q
theorem ps_set {i:Nat} {x:Str} {e:Expr} {te:TE} {pos':Pos} (hN:X.N.Nodup) (hi:X.N[i]?=some x) (hx:Loc X.env.scope x) (he:PE X e te) (hs:swapsWith e (some (.Name x pos')) pos.line X.env=pure false:=by rfl) (hf:X.fn x=true∨X.env.scope.names.lookup x=some .local:=by first | exact .inl rfl | exact .inr rfl | assumption) :
  PS X (.Assign [.Name x pos'] e pos) (tAsg te (gName i)):=by
 intro pins s σ H D I h
 refine wpAny_Assign_Name (thn (he pins s σ H _ I h) fun v s1 ⟨y,H1,I1,r1,q1⟩=>?_) hs
 exact store_ok I1 hN hi hx r1 (fun s2 I2=>⟨_,H1,I2,q1⟩) hf
end

section
variable {X:Cx} {pos:Pos}
end

structure It where
 go:Nat→Hp→Prop
 yld:Nat→Hp→V→Hp→Prop
 stop:Nat→Hp→Prop
noncomputable def FpOk (X:Cx) (pins:List (Addr×Obj)) (H:Hp) (b:Addr):Prop:=
 H b=none∧b≠X.env.locals∧b∉X.fs∧(b∈X.ex∨X.s₀.heap.objs.size≤b)∧(∀ x c,X.env.cells.lookup x=some c→c≠b)∧∀ p∈X.pn++pins,p.1≠b
theorem Inv.fpOk {X:Cx} {pins:List (Addr×Obj)} {σ:St} {H H':Hp} {s:Shared} {b:Addr} (I:Inv X pins σ H s) (hb:s.heap.objs.size≤b) (hn:H' b=none):FpOk X pins H' b:=by
 refine ⟨hn,Nat.ne_of_gt (Nat.lt_of_lt_of_le I.lt hb),I.nofs hb,.inr (Nat.le_trans I.sz hb),fun x c e z=>?_,fun p hp z=>?_⟩
 ·obtain ⟨v,q⟩:=I.cell x c e
  exact absurd (Nat.lt_of_lt_of_le q.lt (by rw [z]; exact hb)) (Nat.lt_irrefl _)
 ·exact absurd (Nat.lt_of_lt_of_le (Heap.lt_size (I.pin p hp).1) (by rw [z]; exact hb)) (Nat.lt_irrefl _)
structure Turn (P:Program) (w:World) (K:PySem.W.Frag) (tg:Expr) (J:It) (fp:List Addr) (it:Addr) (tn:Nat→Heap→Prop):Prop where
 mem:it∈fp
 obj:∀ i h,tn i h→∀ b∈fp,∃ o,h.get? b=some o∧∀ v,o.data≠.cell v
 keep:∀ i h h',tn i h→(∀ b∈fp,∀ o,h.get? b=some o→h'.get? b=some o)→tn i h'
 item:∀ (X:Cx),X.prog=P→X.w=w→X.K=K→X.calm=true→∀ (i:Nat) (pins:List (Addr×Obj)) (s:Shared) (σ:St) (H:Hp) (E:Value→Shared→Prop),Inv X pins σ H s→(∀ b∈fp,FpOk X pins H b)→tn i s.heap→J.go i H →
  wpAny (model P w) X.A (pyNext (.ref it)) (fun r s1=>∃ u,r=some u ∧
   wpAny (model P w) X.A (letOwnedTupleGo tg (.ref it) u) (fun _ s2=>∃ x H',Inv X pins σ H' s2∧RelV x u∧J.yld i H x H'∧tn (i+1) s2.heap∧∀ b∈fp,H' b=none) E s1) E s
 done:∀ (X:Cx),X.prog=P→X.w=w→X.K=K→X.calm=true→∀ (i:Nat) (pins:List (Addr×Obj)) (s:Shared) (σ:St) (H:Hp) (E:Value→Shared→Prop),Inv X pins σ H s→(∀ b∈fp,FpOk X pins H b)→tn i s.heap→J.stop i H →
  wpAny (model P w) X.A (pyNext (.ref it)) (fun r s1=>r=none∧Inv X pins σ H s1) E s
 self:∀ (A:Around) (i:Nat) (s:Shared) (Q:Value→Shared→Prop) (E:Value→Shared→Prop),tn i s.heap→Q (.ref it) s→wpAny (model P w) A (pyIter (.ref it)) Q E s
noncomputable abbrev TI:=St→Hp→(It→Hp→Prop)→Prop
noncomputable def PIE (X:Cx) (pins:List (Addr×Obj)) (σ:St) (tg:Expr) (R:It→Hp→Prop) (itv:Value) (s2:Shared):Prop:=
 ∃ (it:Addr) (fp:List Addr) (tn:Nat→Heap→Prop) (J:It) (H':Hp),itv=.ref it∧Inv X pins σ H' s2∧Turn X.prog X.w X.K tg J fp it tn∧tn 0 s2.heap∧(∀ b∈fp,FpOk X pins H' b)∧R J H'
noncomputable def PI (X:Cx) (tg iter:Expr) (wi:TI):Prop:=
 ∀ (pins:List (Addr×Obj)) (s:Shared) (σ:St) (H:Hp) (R:It→Hp→Prop),Inv X pins σ H s→wi σ H R →
  wpAny (model X.prog X.w) X.A (eval iter X.env) (fun v s1=>wpAny (model X.prog X.w) X.A (pyIter v) (PIE X pins σ tg R) X.xe s1) X.xe s

theorem go_of {M:Model} {A:Around} {E:Value→Shared→Prop} {s:Shared} {tg:Expr} {it:Addr} {u:Value} {o:Obj} {n:String} {vs:Array Value} {Q:Unit→Shared→Prop} (ho:s.heap.get? it=some o) (hc:o.cls=.type n) (hd:o.data=.fields vs)
  (hn:["enumerate","zip","dict_itemiterator","dict_reverseitemiterator","odict_iterator","itertools.zip_longest","itertools.pairwise"].contains n=false) (hQ:Q () s):wpAny M A (letOwnedTupleGo tg (.ref it) u) Q E s:=by
 unfold letOwnedTupleGo
 cases tg <;> first
  | exact wpAny_pure hQ
  | (cases u <;> first
    | exact wpAny_pure hQ
    | (refine wpAny_bind (wpAny_load ho ?_)
       rw [hc,hd]
       show wpAny M A (if (["enumerate","zip","dict_itemiterator","dict_reverseitemiterator","odict_iterator","itertools.zip_longest","itertools.pairwise"].contains n&&vs[0]?==some (rawInt _))=true then _ else _) Q E s
       rw [if_neg (by intro h; rw [hn,Bool.false_and] at h; cases h)]
       exact wpAny_pure hQ))

noncomputable def Itl (K:PySem.W.Frag) (a:Addr):It:=
 ⟨fun i H=>∃ xs x,SqL K H a xs∧xs[i]?=some x,fun i H x H'=>H'=H∧∀ xs,SqL K H a xs→xs[i]?=some x,fun i H=>∃ xs,SqL K H a xs∧xs.length≤i⟩
noncomputable def Itr (lo:Int) (n:Nat):It:=⟨fun i _=>i<n,fun i H x H'=>H'=H∧x=.int (lo+i),fun i _=>n≤i⟩
theorem turn_list {P:Program} {w:World} {K:PySem.W.Frag} {tg:Expr} (a it:Addr):Turn P w K tg (Itl K a) [it] it (fun i h=>h.IsListIter it a i) where
 mem:=by simp
 obj:=fun i h st b hb=>by
  have e:b=it:=by simpa using hb
  subst e
  obtain ⟨o,e,c,d⟩:=st
  exact ⟨o,e,fun v z=>by rw [d] at z; cases z⟩
 keep:=fun i h h' st k=>st.at fun o e=>k it (by simp) o e
 item:=by
  intro X hP hw hK hc i pins s σ H E I hf st hg
  subst hP hw hK
  obtain ⟨xs,x,hq,hx⟩:=hg
  obtain ⟨its,rv,p,hz⟩:=I.list hq
  obtain ⟨u,hu,ru⟩:=rv.get hx
  obtain ⟨f0,f1,f2,f3,f4,f5⟩:=hf it (by simp)
  refine wpAny_pyNext_list_item st p.isList (x:=u) (by simpa using hu) fun h' st' sb=>?_
  have I1:Inv X pins σ H { s with heap:=h' }:=I.turned (t':=s.toks) (fun b o hb e=>(sb.2 b hb).trans e) f0 f1 f3 f4 f5
  obtain ⟨o,e,c,d⟩:=id st'
  exact ⟨u,rfl,go_of (s:={ s with heap:=h' }) e c d (by decide) ⟨x,H,I1,ru,⟨rfl,fun ys hy=>by rw [I.list_inj hy hq]; exact hx⟩,st',fun b hb=>(hf b hb).1⟩⟩
 done:=by
  intro X hP hw hK hc i pins s σ H E I hf st hg
  subst hP hw hK
  obtain ⟨xs,hq,hx⟩:=hg
  obtain ⟨its,rv,p,hz⟩:=I.list hq
  obtain ⟨f0,f1,f2,f3,f4,f5⟩:=hf it (by simp)
  have hl:=rv.length
  exact wpAny_pyNext_list_end (I.ok.hd hc) st p.isList (by simp; omega) fun h' eb=>⟨rfl,I.turned (t':=s.toks) (fun b o hb e=>eb b o hb e) f0 f1 f3 f4 f5⟩
 self:=fun _ _ _ _ _ st h=>wpAny_pyIter_listiter st h
theorem turn_range {P:Program} {w:World} {K:PySem.W.Frag} {tg:Expr} (it:Addr) (lo:Int) (n:Nat):Turn P w K tg (Itr lo n) [it] it (fun i h=>IsRangeIter h it (lo+(i:Nat)*1) ((n:Int)-(i:Nat)) 1) where
 mem:=by simp
 obj:=fun i h st b hb=>by
  have e:b=it:=by simpa using hb
  subst e
  exact ⟨_,st,fun v z=>by
   have z':Data.fields _=Data.cell v:=z
   cases z'⟩
 keep:=fun i h h' st k=>k it (by simp) _ st
 item:=by
  intro X hP hw hK hc i pins s σ H E I hf st hg
  subst hP hw hK
  obtain ⟨f0,f1,f2,f3,f4,f5⟩:=hf it (by simp)
  have W:=Walks.range (prog:=X.prog) (w:=X.w) (I.ok.hd hc) it lo 1 n
  refine W.item i s _ _ hg st fun v h' tk hv st' kk=>?_
  obtain ⟨t,rfl⟩:=hv
  have I1:Inv X pins σ H { s with heap:=h',toks:=tk }:=I.turned (fun b o hb e=>kk b o (by simpa using hb) e) f0 f1 f3 f4 f5
  refine ⟨_,rfl,go_of (s:={ s with heap:=h',toks:=tk }) (n:="range_iterator") st' rfl rfl (by decide) ⟨.int (lo+i),H,I1,⟨t,?_⟩,⟨rfl,rfl⟩,st',fun b hb=>(hf b hb).1⟩⟩
  rw [Int.mul_one]
 done:=by
  intro X hP hw hK hc i pins s σ H E I hf st hg
  subst hP hw hK
  obtain ⟨f0,f1,f2,f3,f4,f5⟩:=hf it (by simp)
  exact wpAny_pyNext_range_end (I.ok.hd hc) st (by have:n≤i:=hg; omega) fun h' eb=>⟨rfl,I.turned (t':=s.toks) (fun b o hb e=>eb b o hb e) f0 f1 f3 f4 f5⟩
 self:=fun _ _ _ _ _ st h=>wpAny_pyIter_rangeiter st h
end L2

namespace L2
open PySem PySem.Spec PyProof.Rows
section
variable {X:Cx} {tg:Expr}
inductive IsLs (K:PySem.W.Frag) (x:V) (H1:Hp) (R:It→Hp→Prop):Prop
 | mk (a:Addr) (h1:x=.ref a) (h2:∃ xs,SqL K H1 a xs) (r:R (Itl K a) H1)
noncomputable def iList (K:PySem.W.Frag) (tl:TE):TI:=fun σ H R=>tl σ H fun x H1=>IsLs K x H1 R
theorem pi_list {l:Expr} {tl:TE} (hl:PE X l tl):PI X tg l (iList X.K tl):=by
 intro pins s σ H R I h
 refine thn (hl pins s σ H _ I h) fun v s1 ⟨x,H1,I1,r1,q1⟩=>?_
 obtain ⟨a,e,⟨xs,hq⟩,q⟩:=q1
 subst e
 cases r1
 obtain ⟨its,rv,p,hz⟩:=I1.list hq
 refine wpAny_pyIter_list p.isList ?_
 refine ⟨s1.heap.objs.size,[s1.heap.objs.size],_,_,H1,rfl,I1.kept (t':=s1.toks) fun b o e=>Heap.get?_push_of_some _ e,turn_list a _,⟨_,Heap.get?_push_size _ rfl,rfl,rfl⟩,fun b hb=>?_,q⟩
 have e:b=s1.heap.objs.size:=by simpa using hb
 subst e
 exact I1.fpOk (Nat.le_refl _) (I1.hok.fresh (Nat.le_refl _))
theorem range_it {pins:List (Addr×Obj)} {σ:St} {H:Hp} {s:Shared} {R:It→Hp→Prop} {E:Value→Shared→Prop} {lo hi:Int} {t u v:Tok} {tk:Nat} (I:Inv X pins σ H s) (h1:-(2^62)≤lo) (h2:lo<2^62) (h3:-(2^62)≤hi) (h4:hi<2^62)
  (q:R (Itr lo (hi-lo).toNat) H):wpAny (model X.prog X.w) X.A (pyIter (.ref s.heap.objs.size)) (PIE X pins σ tg R) E { s with heap:=s.heap.push { cls:=.type "range",data:=.fields #[.int lo t,.int hi u,.int 1 v] },toks:=tk }:=by
 refine wpAny_pyIter_range (IsRange.new ..) (small_one h1 h2 h3 h4) ?_
 have I1:Inv X pins σ H { s with heap:=s.heap.push { cls:=.type "range",data:=.fields #[.int lo t,.int hi u,.int 1 v] },toks:=tk }:=I.kept fun b o e=>Heap.get?_push_of_some _ e
 refine ⟨(s.heap.push { cls:=.type "range",data:=.fields #[.int lo t,.int hi u,.int 1 v] }).objs.size,[(s.heap.push { cls:=.type "range",data:=.fields #[.int lo t,.int hi u,.int 1 v] }).objs.size],_,_,H,rfl,
  I1.kept (t':=tk) fun b o e=>Heap.get?_push_of_some _ e,turn_range _ lo (hi-lo).toNat,?_,fun b hb=>?_,q⟩
 ·have e1:lo+((0:Nat):Int)*1=lo:=by simp
  have e2:(((hi-lo).toNat:Nat):Int)-((0:Nat):Int)=Builtin.Range.rangeSize lo hi 1:=by rw [rangeSize_one]; split <;> omega
  show IsRangeIter _ _ (lo+((0:Nat):Int)*1) ((((hi-lo).toNat:Nat):Int)-((0:Nat):Int)) 1
  rw [e1,e2]
  exact Heap.get?_push_size _ rfl
 ·have e:b=(s.heap.push { cls:=.type "range",data:=.fields #[.int lo t,.int hi u,.int 1 v] }).objs.size:=by simpa using hb
  subst e
  exact I1.fpOk (Nat.le_refl _) (I1.hok.fresh (Nat.le_refl _))
inductive IsRn (vs:List V) (H1:Hp) (R:It→Hp→Prop):Prop
 | mk (j:Int) (h1:vs=[.int j]) (h2:-(2^62)≤j) (h3:j<2^62) (r:R (Itr 0 j.toNat) H1)
noncomputable def iRng1 (ta:TA):TI:=fun σ H R=>ta σ H fun vs H1=>IsRn vs H1 R
noncomputable def iRng2 (ta:TA):TI:=fun σ H R=>ta σ H fun vs H1=>∃ i j:Int,vs=[.int i,.int j]∧(-(2^62)≤i∧i<2^62∧-(2^62)≤j∧j<2^62)∧R (Itr i (j-i).toNat) H1
theorem pi_range1 {a:Expr} {ta:TA} {p pos:Pos} (hg:Gl X "range") (hm:X.mg "range" = none) (ha:PA X [a] ta) (hs:starEach [a] X.env=[(false,eval a X.env)]:=by rfl):PI X tg (.Call (.Name "range" p) [a] [] pos) (iRng1 ta):=by
 intro pins s σ H R I h
 refine Call_ (ld_blt I hg hm boot_range (PyProof.Rows.callWith_type1 (thn (ha pos pins s σ H _ I h) fun us s1 ⟨vs,H1,I1,r1,q1⟩=>?_) hs rfl))
 obtain ⟨j,e,q1,q2,q⟩:=q1
 subst e
 cases r1 with
 | cons r rr=>
  cases rr
  obtain ⟨t,rfl⟩:=r
  exact call_range_1 (range_it I1 (by omega) (by omega) q1 q2 (by simpa using q))
theorem pi_range2 {a b:Expr} {ta:TA} {p pos:Pos} (hg:Gl X "range") (hm:X.mg "range" = none) (ha:PA X [a,b] ta) (hs:starEach [a,b] X.env=[(false,eval a X.env),(false,eval b X.env)]:=by rfl) (hs2:starEach [b] X.env=[(false,eval b X.env)]:=by rfl) :
  PI X tg (.Call (.Name "range" p) [a,b] [] pos) (iRng2 ta):=by
 intro pins s σ H R I h
 refine Call_ (ld_blt I hg hm boot_range (PyProof.Rows.callWith_type1 (thn (ha pos pins s σ H _ I h) fun us s1 ⟨vs,H1,I1,r1,q1⟩=>?_) (by rw [hs,hs2]) (by rw [hs2]; rfl)))
 obtain ⟨i,j,e,⟨q1,q2,q3,q4⟩,q⟩:=q1
 subst e
 cases r1 with
 | cons r rr=>
  cases rr with
  | cons r' rr=>
   cases rr
   obtain ⟨t,rfl⟩:=r
   obtain ⟨t',rfl⟩:=r'
   exact call_range_2 (range_it I1 q1 q2 q3 q4 q)

noncomputable def tFor (wi:TI) (g:TG) (tb:TS):TS:=fun D σ H=>wi σ H fun J H1=>∃ W:Nat→Nat→St→Hp→Prop,(∃ m,W 0 m σ H1)∧∀ i m σ H,W i m σ H →
 (J.stop i H∧D.nx σ H)∨(J.go i H∧∃ N:St→Hp→Prop,(∀ σ' H',N σ' H'→∃ m',m'<m∧W (i+1) m' σ' H')∧∀ x H',J.yld i H x H'→g x σ H' fun σ2 H2=>tb { D with nx:=N,ct:=N,bk:=D.nx } σ2 H2)
noncomputable def pinsAt (fp:List Addr) (h:Heap):List (Addr×Obj):=fp.filterMap fun b=>(h.get? b).map fun o=>(b,o)
theorem mem_pinsAt {fp:List Addr} {h:Heap} {b:Addr} {o:Obj} (hb:b∈fp) (e:h.get? b=some o):(b,o)∈pinsAt fp h:=List.mem_filterMap.mpr ⟨b,hb,by rw [e]; rfl⟩
theorem of_pinsAt {fp:List Addr} {h:Heap} {p:Addr×Obj} (hp:p∈pinsAt fp h):p.1∈fp∧h.get? p.1=some p.2:=by
 obtain ⟨b,hb,e⟩:=List.mem_filterMap.mp hp
 cases q:h.get? b with
 | none=>rw [q] at e; cases e
 | some o=>
  rw [q] at e
  have e':(b,o)=p:=Option.some.inj e
  subst e'
  exact ⟨hb,q⟩
theorem Inv.pinned {pins:List (Addr×Obj)} {σ:St} {H:Hp} {s:Shared} {fp:List Addr} (I:Inv X pins σ H s) (hf:∀ b∈fp,FpOk X pins H b) (ho:∀ b∈fp,∃ o,s.heap.get? b=some o∧∀ v,o.data≠.cell v):Inv X (pins++pinsAt fp s.heap) σ H s:=
 I.pins_of fun p hp=>(List.mem_append.mp hp).elim (fun z=>I.pin p (List.mem_append_right _ z)) fun z=>by
  obtain ⟨hb,e⟩:=of_pinsAt z
  obtain ⟨f0,f1,f2,_⟩:=hf p.1 hb
  obtain ⟨o,e',d⟩:=ho p.1 hb
  rw [e] at e'; cases e'
  exact ⟨e,f0,f1,f2,d⟩
theorem Inv.unpinned {pins pl:List (Addr×Obj)} {σ:St} {H:Hp} {s:Shared} (I:Inv X (pins++pl) σ H s):Inv X pins σ H s:=I.pins_of fun p hp=>I.pin p (List.mem_append_right _ (List.mem_append_left _ hp))
theorem ps_for {iter:Expr} {body:List Stmt} {wi:TI} {g:TG} {tb:TS} {pos:Pos} (hp:PassesOwn (model X.prog X.w) X.A X.env X.xe) (hc:X.calm=true) (hi:PI X tg iter wi) (hg:PG X tg g) (hb:PSs X body tb)
  (hs:∀ x,foldedSetIterable iter X.env x=pure x:=by intro _; rfl):PS X (.For tg iter body [] pos) (tFor wi g tb):=by
 intro pins s σ H D I h
 refine wpAny_For (thn (hi pins s σ H _ I h) fun v s1 h1=>thn h1 fun itv s2 h2=>?_) hs
 obtain ⟨it,fp,tn,J,H2,e,I2,T,st2,f2,W,⟨m0,w0⟩,turn⟩:=h2
 subst e
 -- what stays true of the iterator's objects through the loop
 have stat:∀ {H':Hp},(∀ b∈fp,H' b=none)→∀ b∈fp,FpOk X pins H' b:=fun hn b hb=>⟨hn b hb,(f2 b hb).2⟩
 refine codeAny_forLoop_any (fun n s'=>∃ i σ' H',Inv X pins σ' H' s'∧tn i s'.heap∧(∀ b∈fp,H' b=none)∧W i n σ' H') ?_ m0 ⟨0,σ,H2,I2,st2,fun b hb=>(f2 b hb).1,w0⟩
 rintro n s3 ⟨i,σ3,H3,I3,st3,fr3,w3⟩
 rcases turn i n σ3 H3 w3 with ⟨stop,qn⟩ | ⟨go,N,hN,step⟩
 ·refine wpAny_passesOwn hp (thn (T.done X rfl rfl rfl hc i pins s3 σ3 H3 X.xe I3 (stat fr3) st3 stop) fun r s4 ⟨hr,I4⟩=>?_)
  subst hr
  exact wpAny_execs_nil ⟨σ3,H3,I4,qn⟩
 ·refine wpAny_passesOwn hp (thn (T.item X rfl rfl rfl hc i pins s3 σ3 H3 X.xe I3 (stat fr3) st3 go) fun r s4 ⟨u,hr,h4⟩=>?_)
  subst hr
  refine wpAny_passesOwn hp (thn h4 fun _ s5 ⟨x,H5,I5,r5,y5,st5,fr5⟩=>?_)
  have I5':=I5.pinned (stat fr5) (T.obj _ _ st5)
  refine wpAny_passesOwn hp (thn (hg _ s5 σ3 H5 x u _ I5' r5 (step x H5 y5)) fun _ s6 ⟨σ6,H6,I6,q6⟩=>?_)
  refine wpAny_passesOwn hp (thn (hb _ s6 σ6 H6 _ I6 q6) fun f s7 q7=>?_)
  have again:∀ {σ7:St} {H7:Hp},Inv X (pins++pinsAt fp s5.heap) σ7 H7 s7→N σ7 H7→∃ m,m<n∧∃ i σ' H',Inv X pins σ' H' s7∧tn i s7.heap∧(∀ b∈fp,H' b=none)∧W i m σ' H':=fun {σ7 H7} I7 n7=>by
   obtain ⟨m',hm,w7⟩:=hN σ7 H7 n7
   refine ⟨m',hm,i+1,σ7,H7,I7.unpinned,T.keep _ _ _ st5 fun b hb o e=>(I7.pin (b,o) (List.mem_append_right _ (List.mem_append_right _ (mem_pinsAt hb e)))).1,fun b hb=>?_,w7⟩
   obtain ⟨o,e,d⟩:=T.obj _ _ st5 b hb
   exact (I7.pin (b,o) (List.mem_append_right _ (List.mem_append_right _ (mem_pinsAt hb e)))).2.1
  cases f with
  | next=>obtain ⟨σ7,H7,I7,n7⟩:=q7; exact again I7 n7
  | cont=>obtain ⟨σ7,H7,I7,n7⟩:=q7; exact again I7 n7
  | brk=>obtain ⟨σ7,H7,I7,q7⟩:=q7; exact ⟨σ7,H7,I7.unpinned,q7⟩
  | ret v=>obtain ⟨x7,σ7,H7,I7,r7,q7⟩:=q7; exact ⟨x7,σ7,H7,I7.unpinned,r7,q7⟩
end

theorem for_list {K:PySem.W.Frag} {a:Addr} {xs:List V} {g:TG} {tb:TS} {D:Ends} {σ:St} {H:Hp} (Pv:Nat→St→Hp→Prop) (h0:Pv 0 σ H) (hl:∀ i σ H,i≤xs.length→Pv i σ H→SqL K H a xs)
  (hs:∀ i x σ H,xs[i]?=some x→Pv i σ H→g x σ H fun σ2 H2=>tb { D with nx:=Pv (i+1),ct:=Pv (i+1),bk:=D.nx } σ2 H2) (hd:∀ σ H,Pv xs.length σ H→D.nx σ H) :
  ∃ W:Nat→Nat→St→Hp→Prop,(∃ m,W 0 m σ H)∧∀ i m σ H,W i m σ H →
   ((Itl K a).stop i H∧D.nx σ H)∨((Itl K a).go i H∧∃ N:St→Hp→Prop,(∀ σ' H',N σ' H'→∃ m',m'<m∧W (i+1) m' σ' H')∧∀ x H',(Itl K a).yld i H x H'→g x σ H' fun σ2 H2=>tb { D with nx:=N,ct:=N,bk:=D.nx } σ2 H2):=by
 refine ⟨fun i m σ H=>m=xs.length-i∧i≤xs.length∧Pv i σ H,⟨xs.length,by simp,Nat.zero_le _,h0⟩,?_⟩
 rintro i m σ H ⟨rfl,hi,p⟩
 have q:=hl i σ H hi p
 by_cases hlt:i<xs.length
 ·refine .inr ⟨⟨xs,xs[i],q,by simp [hlt]⟩,Pv (i+1),fun σ' H' p'=>⟨xs.length-(i+1),by omega,rfl,hlt,p'⟩,fun x H' y=>?_⟩
  obtain ⟨e,y⟩:=y
  subst e
  exact hs i x σ _ (y xs q) p
 ·have e:i=xs.length:=by omega
  subst e
  exact .inl ⟨⟨xs,q,Nat.le_refl _⟩,hd σ H p⟩
end L2

namespace L2
open PySem PySem.Spec PyProof.Rows

noncomputable abbrev R2:=V→V→Hp→VK→Prop
noncomputable def OpR (X:Cx) (f:Value→Value→Sem Value) (r:R2):Prop:=
 ∀ (pins:List (Addr×Obj)) (s:Shared) (σ:St) (H:Hp) (x y:V) (v u:Value) (Q:VK),Inv X pins σ H s→RelV x v→RelV y u→r x y H Q →
  wpAny (model X.prog X.w) X.A (f v u) (EP X pins σ Q) X.xe s
noncomputable def CallR (X:Cx) (f:Value) (r:List V→Hp→VK→Prop):Prop:=
 ∀ (pins:List (Addr×Obj)) (s:Shared) (σ:St) (H:Hp) (xs:List V) (us:List Value) (Q:VK),Inv X pins σ H s→Vals xs us→r xs H Q →
  wpAny (model X.prog X.w) X.A (call f us) (EP X pins σ Q) X.xe s
noncomputable def TruR (X:Cx) (r:V→Hp→(Bool→Hp→Prop)→Prop):Prop:=
 ∀ (pins:List (Addr×Obj)) (s:Shared) (σ:St) (H:Hp) (x:V) (v:Value) (Q:Bool→Hp→Prop),Inv X pins σ H s→RelV x v→r x H Q →
  wpAny (model X.prog X.w) X.A (truthy v) (TP X pins σ Q) X.xe s

noncomputable def tOp (r:R2) (ta tb:TE):TE:=fun σ H Q=>ta σ H fun x H1=>tb σ H1 fun y H2=>r x y H2 Q
noncomputable def tUn (r:V→Hp→VK→Prop) (ta:TE):TE:=fun σ H Q=>ta σ H fun x H1=>r x H1 Q
inductive rI (C:Int→Int→Prop) (g:Int→Int→V) (x:V) (y:V) (H:Hp) (Q:VK):Prop
 | mk (i:_) (j:_) (h0_:x=.int i) (h1_:y=.int j) (h2_:C i j) (h3_:Q (g i j) H)
inductive rI0 (g:Int→Int→V) (x:V) (y:V) (H:Hp) (Q:VK):Prop
 | mk (i:_) (j:_) (h0_:x=.int i) (h1_:y=.int j) (h2_:Q (g i j) H)

section
variable {X:Cx} {a b c:Expr} {ta tb tc:TE} {pos:Pos}

theorem binT (ha:PE X a ta) (hb:PE X b tb) {pins:List (Addr×Obj)} {s:Shared} {σ:St} {H:Hp} {R:V→V→Hp→Prop} (I:Inv X pins σ H s)
  (h:ta σ H fun x H1=>tb σ H1 fun y H2=>R x y H2) {Q:Value→Shared→Prop} {f:Value→Value→Sem Value}
  (hf:∀ v u s2 x y H2,Inv X pins σ H2 s2→RelV x v→RelV y u→R x y H2→wpAny (model X.prog X.w) X.A (f v u) Q X.xe s2) :
  wpAny (model X.prog X.w) X.A (eval a X.env) (fun v s₁=>wpAny (model X.prog X.w) X.A (eval b X.env) (fun u s₂=>wpAny (model X.prog X.w) X.A (f v u) Q X.xe s₂) X.xe s₁) X.xe s:=by
 refine thn (ha pins s σ H _ I h) fun v s1 ⟨x,H1,I1,r1,q1⟩=>?_
 refine thn (hb pins s1 σ H1 _ I1 q1) fun u s2 ⟨y,H2,I2,r2,q2⟩=>?_
 exact hf v u s2 x y H2 I2 r1 r2 q2

theorem pe_op {op:Operator} {r:R2} (ho:OpR X (binaryOp op) r) (ha:PE X a ta) (hb:PE X b tb):PE X (.BinOp a op b pos) (tOp r ta tb):=by
 intro pins s σ H Q I h
 exact wpAny_BinOp (binT ha hb I h fun v u s2 x y H2 I2 rx ry q=>ho pins s2 σ H2 x y v u Q I2 rx ry q)

theorem opI {f:Value→Value→Sem Value} {C:Int→Int→Prop} {g:Int→Int→Int}
  (rule:∀ (i j:Int) (t u:Tok) (s:Shared) (Q:Value→Shared→Prop) (E:Value→Shared→Prop),C i j→Q (.int (g i j) s.toks) { s with toks:=s.toks+1 }→wpAny (model X.prog X.w) X.A (f (.int i t) (.int j u)) Q E s) :
  OpR X f (rI C fun i j=>.int (g i j)):=by
 intro pins s σ H x y v u Q I rx ry h
 obtain ⟨i,j,rfl,rfl,hc,q⟩:=h
 obtain ⟨t,rfl⟩:=rx
 obtain ⟨t',rfl⟩:=ry
 exact rule i j t t' s _ _ hc ⟨.int (g i j),H,I.tok _,⟨_,rfl⟩,q⟩
theorem opI0 {f:Value→Value→Sem Value} {g:Int→Int→Int}
  (rule:∀ (i j:Int) (t u:Tok) (s:Shared) (Q:Value→Shared→Prop) (E:Value→Shared→Prop),Q (.int (g i j) s.toks) { s with toks:=s.toks+1 }→wpAny (model X.prog X.w) X.A (f (.int i t) (.int j u)) Q E s) :
  OpR X f (rI0 fun i j=>.int (g i j)):=by
 intro pins s σ H x y v u Q I rx ry h
 obtain ⟨i,j,rfl,rfl,q⟩:=h
 obtain ⟨t,rfl⟩:=rx
 obtain ⟨t',rfl⟩:=ry
 exact rule i j t t' s _ _ ⟨.int (g i j),H,I.tok _,⟨_,rfl⟩,q⟩
theorem opB0 {f:Value→Value→Sem Value} {g:Int→Int→Bool}
  (rule:∀ (i j:Int) (t u:Tok) (s:Shared) (Q:Value→Shared→Prop) (E:Value→Shared→Prop),Q (.bool (g i j)) s→wpAny (model X.prog X.w) X.A (f (.int i t) (.int j u)) Q E s) :
  OpR X f (rI0 fun i j=>.bl (g i j)):=by
 intro pins s σ H x y v u Q I rx ry h
 obtain ⟨i,j,rfl,rfl,q⟩:=h
 obtain ⟨t,rfl⟩:=rx
 obtain ⟨t',rfl⟩:=ry
 exact rule i j t t' s _ _ ⟨.bl (g i j),H,I,rfl,q⟩

noncomputable def CDiv (i j:Int):Prop:=0<j∧j<1073741824
noncomputable def CMul (i j:Int):Prop:=(-(2^64)<i∧i<2^64)∨(-(2^64)<j∧j<2^64)
theorem CMul.ok {i j:Int} (h:CMul i j):IntMulOk i j:=by
 rcases h with ⟨h1,h2⟩ | ⟨h1,h2⟩
 ·exact .of_left (intBits_le_64 h1 h2)
 ·exact .of_right (intBits_le_64 h1 h2)

theorem op_add:OpR X (binaryOp .Add) (rI0 fun i j=>.int (i+j)):=opI0 fun _ _ _ _ _ _ _ q=>add_int q
theorem op_mul:OpR X (binaryOp .Mult) (rI CMul fun i j=>.int (i*j)):=opI fun _ _ _ _ _ _ _ hc q=>mul_int q hc.ok
theorem op_fdiv:OpR X (binaryOp .FloorDiv) (rI CDiv fun i j=>.int (i/j)):=opI fun i j _ _ _ _ _ hc q=>by
 have h1:(0:Int)<j:=hc.1
 have h2:j<1073741824:=hc.2
 exact floordiv_int (by omega) (by rw [Int.fdiv_eq_ediv_of_nonneg i (by omega)]; exact q) (.inl (PyProof.noPylong_small (by omega)))
theorem op_mod:OpR X (binaryOp .Mod) (rI (fun _ j=>0<j) fun i j=>.int (i%j)):=opI fun i j _ _ _ _ _ hc q=>by
 have h1:(0:Int)<j:=hc
 exact mod_int' (by omega) (by rw [Int.fmod_eq_emod_of_nonneg i (by omega)]; exact q)



end

noncomputable def scal:V→V→Bool
 | .non,.non=>true | .non,.int _=>true | .int _,.non=>true | .non,.bl _=>true | .bl _,.non=>true | .non,.str _=>true | .str _,.non=>true
 | .int _,.int _=>true | .bl _,.bl _=>true | .str _,.str _=>true | .byt _,.byt _=>true
 | .int _,.str _=>true | .str _,.int _=>true | .bl _,.str _=>true | .str _,.bl _=>true
 | _,_=>false
noncomputable def rEq:R2:=fun x y H Q=>scal x y=true∧Q (.bl (decide (x=y))) H
noncomputable def rNe:R2:=fun x y H Q=>scal x y=true∧Q (.bl (!decide (x=y))) H

theorem dec_int {i j:Int}:decide (V.int i=V.int j)=(i==j):=by
 rw [Bool.eq_iff_iff]
 simp
theorem dec_bl {i j:Bool}:decide (V.bl i=V.bl j)=(i==j):=by
 rw [Bool.eq_iff_iff]
 simp
theorem dec_str {i j:Str}:decide (V.str i=V.str j)=(i==j):=by
 rw [Bool.eq_iff_iff]
 simp
theorem dec_byt {i j:Array UInt8}:decide (V.byt i=V.byt j)=(i.toList==j.toList):=by
 rw [Bool.eq_iff_iff]
 cases i
 cases j
 simp

section
variable {X:Cx} {a b c:Expr} {ta tb tc:TE} {pos:Pos}
theorem fin_bl {pins:List (Addr×Obj)} {σ:St} {H:Hp} {s:Shared} {Q:VK} {k k':Bool} (I:Inv X pins σ H s) (q:Q (.bl k) H) (e:k=k'):EP X pins σ Q (.bool k') s:=by
 subst e
 exact ⟨.bl k,H,I,rfl,q⟩
theorem op_eq:OpR X (compareOp .Eq) rEq:=by
 intro pins s σ H x y v u Q I rx ry h
 obtain ⟨hs,q⟩:=h
 cases x with
 | non=>
  cases rx
  cases y with
  | non=>cases ry; exact PySem.EqNone.eq_none_none (fin_bl I q (by simp))
  | bl j=>cases ry; exact PySem.EqNone.eq_none_bool (fin_bl I q (by simp))
  | int j=>obtain ⟨t',rfl⟩:=ry; exact PySem.EqNone.eq_none_int (fin_bl I q (by simp))
  | str j=>obtain ⟨t',rfl⟩:=ry; exact PySem.EqNone.eq_none_str (fin_bl I q (by simp))
  | _=>exact absurd (show false=true from hs) Bool.false_ne_true
 | bl i=>
  cases rx
  cases y with
  | non=>cases ry; exact PySem.EqNone.eq_bool_none (fin_bl I q (by simp))
  | bl j=>cases ry; exact eq_bool (fin_bl I q dec_bl)
  | str j=>obtain ⟨t',rfl⟩:=ry; exact PySem.EqMixed.eq_bool_str (fin_bl I q (by simp))
  | _=>exact absurd (show false=true from hs) Bool.false_ne_true
 | int i=>
  obtain ⟨t,rfl⟩:=rx
  cases y with
  | non=>cases ry; exact PySem.EqNone.eq_int_none (fin_bl I q (by simp))
  | int j=>obtain ⟨t',rfl⟩:=ry; exact eq_int (fin_bl I q dec_int)
  | str j=>obtain ⟨t',rfl⟩:=ry; exact PySem.EqMixed.eq_int_str (fin_bl I q (by simp))
  | _=>exact absurd (show false=true from hs) Bool.false_ne_true
 | str i=>
  obtain ⟨t,rfl⟩:=rx
  cases y with
  | non=>cases ry; exact PySem.EqNone.eq_str_none (fin_bl I q (by simp))
  | bl j=>cases ry; exact PySem.EqMixed.eq_str_bool (fin_bl I q (by simp))
  | int j=>obtain ⟨t',rfl⟩:=ry; exact PySem.EqMixed.eq_str_int (fin_bl I q (by simp))
  | str j=>obtain ⟨t',rfl⟩:=ry; exact eq_str (fin_bl I q dec_str)
  | _=>exact absurd (show false=true from hs) Bool.false_ne_true
 | byt i=>
  obtain ⟨t,rfl⟩:=rx
  cases y with
  | byt j=>obtain ⟨t',rfl⟩:=ry; exact PySem.W.eq_bytes (fin_bl I q dec_byt)
  | _=>exact absurd (show false=true from hs) Bool.false_ne_true
 | _=>cases y <;> exact absurd (show false=true from hs) Bool.false_ne_true
theorem op_ne:OpR X (compareOp .NotEq) rNe:=by
 intro pins s σ H x y v u Q I rx ry h
 obtain ⟨hs,q⟩:=h
 cases x with
 | non=>
  cases rx
  cases y with
  | non=>cases ry; exact PySem.EqNone.ne_none_none (fin_bl I q (by simp))
  | bl j=>cases ry; exact PySem.EqNone.ne_none_bool (fin_bl I q (by simp))
  | int j=>obtain ⟨t',rfl⟩:=ry; exact PySem.EqNone.ne_none_int (fin_bl I q (by simp))
  | str j=>obtain ⟨t',rfl⟩:=ry; exact PySem.EqNone.ne_none_str (fin_bl I q (by simp))
  | _=>exact absurd (show false=true from hs) Bool.false_ne_true
 | bl i=>
  cases rx
  cases y with
  | non=>cases ry; exact PySem.EqNone.ne_bool_none (fin_bl I q (by simp))
  | bl j=>cases ry; exact ne_bool (fin_bl I q (congrArg not dec_bl))
  | str j=>obtain ⟨t',rfl⟩:=ry; exact PySem.EqMixed.ne_bool_str (fin_bl I q (by simp))
  | _=>exact absurd (show false=true from hs) Bool.false_ne_true
 | int i=>
  obtain ⟨t,rfl⟩:=rx
  cases y with
  | non=>cases ry; exact PySem.EqNone.ne_int_none (fin_bl I q (by simp))
  | int j=>obtain ⟨t',rfl⟩:=ry; exact ne_int (fin_bl I q (congrArg not dec_int))
  | str j=>obtain ⟨t',rfl⟩:=ry; exact PySem.EqMixed.ne_int_str (fin_bl I q (by simp))
  | _=>exact absurd (show false=true from hs) Bool.false_ne_true
 | str i=>
  obtain ⟨t,rfl⟩:=rx
  cases y with
  | non=>cases ry; exact PySem.EqNone.ne_str_none (fin_bl I q (by simp))
  | bl j=>cases ry; exact PySem.EqMixed.ne_str_bool (fin_bl I q (by simp))
  | int j=>obtain ⟨t',rfl⟩:=ry; exact PySem.EqMixed.ne_str_int (fin_bl I q (by simp))
  | str j=>obtain ⟨t',rfl⟩:=ry; exact ne_str (fin_bl I q (congrArg not dec_str))
  | _=>exact absurd (show false=true from hs) Bool.false_ne_true
 | byt i=>
  obtain ⟨t,rfl⟩:=rx
  cases y with
  | byt j=>obtain ⟨t',rfl⟩:=ry; exact PySem.W.ne_bytes (fin_bl I q (congrArg not dec_byt))
  | _=>exact absurd (show false=true from hs) Bool.false_ne_true
 | _=>cases y <;> exact absurd (show false=true from hs) Bool.false_ne_true

theorem op_lt:OpR X (compareOp .Lt) (rI0 fun i j=>.bl (decide (i<j))):=opB0 fun _ _ _ _ _ _ _ q=>lt_int q
theorem op_gt:OpR X (compareOp .Gt) (rI0 fun i j=>.bl (decide (j<i))):=opB0 fun _ _ _ _ _ _ _ q=>gt_int q
theorem op_in_str:OpR X (compareOp .In) (fun x y H Q=>∃ i j,x=.str i∧y=.str j∧Q (.bl (!(Builtin.Str.occurrences j i 0 j.length 1).isEmpty)) H):=by
 intro pins s σ H x y v u Q I rx ry h
 obtain ⟨i,j,rfl,rfl,q⟩:=h
 obtain ⟨t,rfl⟩:=rx
 obtain ⟨t',rfl⟩:=ry
 exact in_str (fin_bl I q rfl)

theorem op_isN:OpR X (compareOp .Is) (fun x y H Q=>y=.non∧Q (.bl (decide (x=.non))) H):=by
 intro pins s σ H x y v u Q I rx ry h
 obtain ⟨rfl,q⟩:=h
 cases ry
 refine is_none_gen (fin_bl I q ?_)
 cases x <;> first
  | (cases rx; rfl)
  | (obtain ⟨t,rfl⟩:=rx; rfl)
theorem op_notN:OpR X (compareOp .IsNot) (fun x y H Q=>y=.non∧Q (.bl (!decide (x=.non))) H):=by
 intro pins s σ H x y v u Q I rx ry h
 obtain ⟨rfl,q⟩:=h
 cases ry
 refine isnot_none_gen (fin_bl I q ?_)
 cases x <;> first
  | (cases rx; rfl)
  | (obtain ⟨t,rfl⟩:=rx; rfl)



theorem nomark (b:Expr) {op:CmpOp} (h:op≠.In:=by decide) (h2:op≠.NotIn:=by decide):behindInMarks op b=false:=by
 have e1:(op==CmpOp.In)=false:=by cases op <;> first | rfl | exact absurd rfl h
 have e2:(op==CmpOp.NotIn)=false:=by cases op <;> first | rfl | exact absurd rfl h2
 cases b <;> simp [behindInMarks,e1,e2]
theorem pe_cmpR {op:CmpOp} {r:R2} (ho:OpR X (compareOp op) r) (ha:PE X a ta) (hb:PE X b tb) (hm:behindInMarks op b=false):PE X (.Compare a [op] [b] pos) (tOp r ta tb):=by
 intro pins s σ H Q I h
 exact wpAny_Compare1 (binT ha hb I h fun v u s2 x y H2 I2 rx ry q=>ho pins s2 σ H2 x y v u Q I2 rx ry q) hm
noncomputable def tTest (t:TE):TT:=fun σ H Q=>t σ H fun x H'=>IsBl x H' Q
theorem pt_cmpR {op:CmpOp} {r:R2} (ho:OpR X (compareOp op) r) (ha:PE X a ta) (hb:PE X b tb) (hm:behindInMarks op b=false):PT X (.Compare a [op] [b] pos) (tTest (tOp r ta tb)):=by
 intro pins s σ H Q I h
 refine wpAny_isTrue_Compare1 (thn (ha pins s σ H _ I h) fun v s1 ⟨x,H1,I1,r1,q1⟩=>thn (hb pins s1 σ H1 _ I1 q1) fun u s2 ⟨y,H2,I2,r2,q2⟩=>
  thn (ho pins s2 σ H2 x y v u _ I2 r1 r2 q2) fun c s3 ⟨z,H3,I3,r3,k,e,q3⟩=>?_) hm
 subst e
 cases r3
 exact wpAny_truthy_bool ⟨H3,I3,q3⟩

noncomputable def TruV (K:PySem.W.Frag) (x:V) (H:Hp) (k:Bool):Prop:=
 match x with
 | .non=>k=false
 | .bl b=>k=b
 | .int i=>k=(i != 0)
 | .str y=>y.length≤sizeLine∧k=((y.length:Int) != 0)
 | .byt y=>y.size≤sizeLine∧k=((y.size:Int) != 0)
 | .ref p=>(∃ xs,SqL K H p xs∧k=!xs.isEmpty)∨(∃ xs,SqT K H p xs∧k=!xs.isEmpty)∨∃ kvs,H p=some (.dK kvs)∧k=!kvs.isEmpty
 | _=>False
theorem isEmpty_kv {κ:Type} {kvs:List (κ×V)} {vs:List (κ×Value)} (r:KV kvs vs):(!vs.isEmpty)=!kvs.isEmpty:=by
 cases r <;> rfl
theorem isEmpty_of {xs:List V} {its:List Value} (r:Vals xs its):(!its.toArray.isEmpty)=!xs.isEmpty:=by
 cases r <;> simp
theorem line63:(sizeLine:Nat)<2^63:=by rw [sizeLine_eq]; decide
theorem tru_ok:TruR X (fun x H Q=>∃ k,TruV X.K x H k∧Q k H):=by
 intro pins s σ H x v Q I rx h
 obtain ⟨k,e,q⟩:=h
 have hl:=line63
 have hs:sizeLine=16777216:=sizeLine_eq
 cases x with
 | non=>
  cases rx
  have e':k=false:=e
  subst e'
  exact truthy_none ⟨H,I,q⟩
 | bl b=>
  cases rx
  have e':k=b:=e
  subst e'
  exact wpAny_truthy_bool ⟨H,I,q⟩
 | int i=>
  obtain ⟨t,rfl⟩:=rx
  have e':k=(i != 0):=e
  subst e'
  exact PySem.P.truthy_int ⟨H,I,q⟩
 | str y=>
  obtain ⟨t,rfl⟩:=rx
  obtain ⟨hy,e'⟩:y.length≤sizeLine∧k=((y.length:Int) != 0):=e
  subst e'
  exact PySem.P.truthy_str (by omega) ⟨H,I.tok _,q⟩
 | byt y=>
  obtain ⟨t,rfl⟩:=rx
  obtain ⟨hy,e'⟩:y.size≤sizeLine∧k=((y.size:Int) != 0):=e
  subst e'
  exact PySem.W.truthy_bytes (by omega) ⟨H,I.tok _,q⟩
 | ref p=>
  cases rx
  have e':(∃ xs,SqL X.K H p xs∧k=!xs.isEmpty)∨(∃ xs,SqT X.K H p xs∧k=!xs.isEmpty)∨∃ kvs,H p=some (.dK kvs)∧k=!kvs.isEmpty:=e
  rcases e' with ⟨xs,hx,e'⟩ | ⟨xs,hx,e'⟩ | ⟨kvs,hx,e'⟩
  ·subst e'
   obtain ⟨its,r,pl,hz⟩:=I.list hx
   have hlen:=r.length
   exact wpAny_truthy_list pl.isList (by simp only [List.size_toArray]; omega) ⟨H,I.tok _,by rw [isEmpty_of r]; exact q⟩
  ·subst e'
   obtain ⟨its,r,pl,hz⟩:=I.tuple hx
   have hlen:=r.length
   exact truthy_tuple pl (by simp only [List.size_toArray]; omega) ⟨H,I.tok _,by rw [isEmpty_of r]; exact q⟩
  ·subst e'
   obtain ⟨hz,hS,vs,r,m⟩:kvs.length≤sizeLine∧(p==sysModules)=false∧∃ vs,KV kvs vs∧s.heap.DictOf (mixKind X.prog X.w) p vs:=I.hok p _ hx
   have hlen:kvs.length=vs.length:=Paired.length r
   exact wpAny_truthy_dict hS m (by omega) ⟨H,I.tok _,by rw [isEmpty_kv r]; exact q⟩
 | _=>exact (show False from e).elim
theorem pt_truth (ha:PE X a ta) (he:∀ whole,isTrue a X.env whole=(do let v ← whole; standAt a.pos; holding [v] (truthy v))) :
  PT X a (fun σ H Q=>ta σ H fun x H'=>∃ k,TruV X.K x H' k∧Q k H'):=by
 intro pins s σ H Q I h
 exact isTrue_plain (thn (ha pins s σ H _ I h) fun v s1 ⟨x,H1,I1,r1,q1⟩=>tru_ok pins s1 σ H1 x v Q I1 r1 q1) (he _)

theorem op_add_str:OpR X (binaryOp .Add) (fun x y H Q=>∃ i j,x=.str i∧y=.str j∧i.length+j.length≤sizeLine∧Q (.str (i++j)) H):=by
 intro pins s σ H x y v u Q I rx ry h
 obtain ⟨i,j,rfl,rfl,hz,q⟩:=h
 obtain ⟨t,rfl⟩:=rx
 obtain ⟨t',rfl⟩:=ry
 exact add_str (fun t' tk=>⟨.str (i++j),H,I.tok _,⟨_,rfl⟩,q⟩) hz


theorem vals1 {x:V} {us:List Value} (r:Vals [x] us):∃ u,us=[u]∧RelV x u:=by
 cases r with
 | cons r1 r2=>cases r2; exact ⟨_,rfl,r1⟩
theorem vals2 {x y:V} {us:List Value} (r:Vals [x,y] us):∃ u w',us=[u,w']∧RelV x u∧RelV y w':=by
 cases r with
 | cons r1 r2=>
  cases r2 with
  | cons r3 r4=>cases r4; exact ⟨_,_,rfl,r1,r3⟩
theorem call_int1:CallR X (.type "int") (fun xs H Q=>(∃ i,xs=[.int i]∧Q (.int i) H)∨∃ k,xs=[.bl k]∧Q (.int (if k then 1 else 0)) H):=by
 intro pins s σ H xs us Q I r h
 rcases h with ⟨i,rfl,q⟩ | ⟨k,rfl,q⟩
 ·obtain ⟨u,rfl,t,rfl⟩:=vals1 r
  exact call_int_int ⟨.int i,H,I,⟨_,rfl⟩,q⟩
 ·obtain ⟨u,rfl,r1⟩:=vals1 r
  cases r1
  exact call_int_bool ⟨.int (if k then 1 else 0),H,I.tok _,⟨_,rfl⟩,q⟩
end
end L2

namespace L2
open PySem PySem.Spec PyProof.Rows

structure ObjM (h:Heap) (x dx C:Addr) (mA:Str→Option Value):Prop where
 obj:h.get? x=some (PySem.W.instObj C dx)
 ns:h.Ns1 dx mA
 ne:dx≠x

theorem lookIn_ns {h:Heap} {dx:Addr} {mA:Str→Option Value} (n:h.Ns1 dx mA):∃ od,h.get? dx=some od∧∀ name,PySem.W.lookIn name od=some (mA name):=by
 obtain ⟨o,es,ep,ho,hd,hk,_,hm⟩:=n
 refine ⟨o,ho,fun name=>?_⟩
 have e:=hm name
 unfold nsFind findBy at e
 rw [← Array.find?_toList] at e
 unfold PySem.W.lookIn
 rw [hd]
 dsimp only
 split
 ·rename_i y q
  rw [q] at e
  exact congrArg some e
 ·rename_i q
  rw [q] at e
  have a:es.toList.any (·.refKey)=false:=by
   rw [List.any_eq_false]
   intro y hy
   obtain ⟨z,t,hkey⟩:=hk y (Array.mem_toList_iff.mp hy)
   simp [DictEntry.refKey,hkey]
  have a':¬ es.toList.any (·.refKey)=true:=by rw [a]; exact Bool.false_ne_true
  rw [if_neg a']
  exact congrArg some e

theorem ObjM.look {h:Heap} {x dx C:Addr} {mA:Str→Option Value} (I:ObjM h x dx C mA):∃ od,PySem.W.InstAt h x (PySem.W.instObj C dx) C (some od)∧∀ name,PySem.W.lookIn name od=some (mA name):=
 let ⟨od,ho,hl⟩:=lookIn_ns I.ns
 ⟨od,⟨I.obj,rfl,rfl,ho⟩,hl⟩

section
variable {prog:Program} {w:World} {A:Around} {E:Value→Shared→Prop} {s:Shared} {K:PySem.W.Frag} {x dx C f:Addr} {mA:Str→Option Value} {name:Str} {v:Value}

theorem get_map {expr:Bool} {Q:Value→Shared→Prop} (X:K.In s.heap) (I:ObjM s.heap x dx C mA) (hg:PySem.W.plainGet K C name=true) (hh:PySem.W.hasDictIn K C=true)
  (ha:PySem.W.findIn K (.ref C) name=some none) (hv:mA name=some v) (hv':PySem.W.handedIn v=true) (h:Q v { s with toks:=s.toks+1 }) :
  wpAny (model prog w) A (getAttr (.ref x) name expr) Q E s:=by
 obtain ⟨od,J,hl⟩:=I.look
 exact PySem.W.get_value X J (PySem.W.plainGet_of hg).1 (PySem.W.findObj_own hh ha rfl (by rw [hl,hv])) hv' h


theorem get_meth {pl:Sem Bool} {Q:Value×List Value→Shared→Prop} (X:K.In s.heap) (I:ObjM s.heap x dx C mA) (hg:PySem.W.plainGet K C name=true)
  (hf:PySem.W.findIn K (.ref C) name=some (some (.ref f))) (ht:PySem.W.isFn K (.ref f)=true) (hv:mA name=none) (h:Q (.ref f,[.ref x]) s) :
  wpAny (model prog w) A (getMethod (.ref x) name pl) Q E s:=by
 obtain ⟨od,J,hl⟩:=I.look
 exact PySem.W.method_fn X J (PySem.W.plainGet_of hg).1 (PySem.W.plainGet_of hg).2 hf (beq_iff_eq.mp ht) (by show (PySem.W.lookIn name od).map (·.isSome)=some false; rw [hl,hv]; rfl) h

theorem set_map {ns:List Str} {Q:Unit→Shared→Prop} (X:K.In s.heap) (I:ObjM s.heap x dx C mA)
  (hs:PySem.W.findIn K (.ref C) "__setattr__" = some (some (.builtin "object.__setattr__"))) (hp:PySem.W.plainOver K C=true) (ht:PySem.W.takerIn K C name=some none) (hh:PySem.W.hasDictIn K C=true)
  (hw:PySem.Within mA ns) (hsz:ns.length≤sizeLine)
  (h:∀ h',ObjM h' x dx C (fun y=>if y=name then some v else mA y)→Heap.SameBut dx s.heap h'→Q () { s with heap:=h',toks:=s.toks+2 }) :
  wpAny (model prog w) A (setAttr (.ref x) name v) Q E s:=by
 obtain ⟨od,J,hl⟩:=I.look
 refine PySem.W.set_plain X J hs (PySem.W.osa_open (s:={ s with toks:=s.toks+1 }) (r:=none) X J hp ht fun b=>?_)
 obtain ⟨cd,hc,hd'⟩:=PySem.W.any_some hh
 have hx:s.heap.get? x=some ⟨.ref C,some dx,.plain,#[]⟩:=I.obj
 refine wpAny_bind (wpAny_pure (wpAny_bind (wpAny_bind (wpAny_loadPart hx (wpAny_bind (PySem.W.Looks.here (s:={ s with toks:=s.toks+1 }) (PySem.W.looks_clsIn X hc) ?_))))))
 rw [hd']
 refine wpAny_pure (a:=some dx) (wpAny_bind (wpAny_pure (wpAny_bind ?_)))
 refine wpAny_nsSet1 (s:={ s with toks:=s.toks+1 }) I.ns fun h' hn2 hs2=>?_
 obtain ⟨oD,esD,epD,hoD,hdD,hcD⟩:=hn2.count (PySem.Within.cons name v hw)
 refine wpAny_bind (wpAny_lookBehind hoD (by rw [hdD]; exact pastItsLine_dict (Nat.le_trans hcD (by rw [List.length_cons]; omega))) ?_)
 exact wpAny_pure (h _ ⟨(hs2.2 _ (Ne.symm I.ne)).trans I.obj,hn2,I.ne⟩ hs2)

theorem make_map {R:Result→Shared→Prop} {vs:List Value} {kw:List (Str×Value)} (X:K.In s.heap) (hm:PySem.W.makesIn K C=true)
  (hi:PySem.W.findIn K (.ref C) "__init__" = some (some (.ref f))) (hf:PySem.W.typeIn K (.ref f)=some (.type "function"))
  (h:codeAny (model prog w) (A.under (.builtin "type.__call__" ⟨.ref C::vs,kw⟩)) (.call (.ref f) ⟨.ref (s.heap.objs.size+1)::vs,kw⟩) (PySem.W.InitBack (s.heap.objs.size+1) R)
   { s with heap:=(s.heap.push PySem.W.emptyDict).push (PySem.W.instObj C s.heap.objs.size) }) :
  codeAny (model prog w) A (.call (.ref C) ⟨vs,kw⟩) R s:=by
 obtain ⟨hh,g,d,t,os⟩:=s
 exact PySem.W.make_core (PySem.W.makes_of X hm) (PySem.W.looks_findIn X hi) (fun self=>PySem.W.bind_fn X self hf) (.inl rfl) h
end

noncomputable def putF (f:Str) (v:V):List (Str×V)→List (Str×V)
 | []=>[(f,v)]
 | (g,x)::r=>if g=f then (g,v)::r else (g,x)::putF f v r
theorem lookup_putF (f g:Str) (v:V):∀ fs:List (Str×V),(putF f v fs).lookup g=if g=f then some v else fs.lookup g
 | []=>by
  show List.lookup g [(f,v)]=_
  by_cases h:g=f
  ·have hb:(g==f)=true:=beq_iff_eq.mpr h
   simp only [List.lookup,hb,if_pos h]
  ·have hb:(g==f)=false:=beq_eq_false_iff_ne.mpr h
   simp only [List.lookup,hb,if_neg h]
 | (k,x)::r=>by
  have ih:=lookup_putF f g v r
  rw [show putF f v ((k,x)::r)=(if k=f then (k,v)::r else (k,x)::putF f v r) from rfl]
  by_cases hk:k=f
  ·rw [if_pos hk]
   by_cases h:g=k
   ·have hb:(g==k)=true:=beq_iff_eq.mpr h
    simp only [List.lookup,hb,if_pos (h.trans hk)]
   ·have hb:(g==k)=false:=beq_eq_false_iff_ne.mpr h
    simp only [List.lookup,hb,if_neg (fun e:g=f=>h (e.trans hk.symm))]
  ·rw [if_neg hk]
   by_cases h:g=k
   ·have hb:(g==k)=true:=beq_iff_eq.mpr h
    simp only [List.lookup,hb,if_neg (fun e:g=f=>hk (h.symm.trans e))]
   ·have hb:(g==k)=false:=beq_eq_false_iff_ne.mpr h
    simp only [List.lookup,hb]
    exact ih
theorem keys_putF (f:Str) (v:V):∀ fs:List (Str×V),f∈(putF f v fs).map (·.1)∧∀ g,g∈fs.map (·.1)→g∈(putF f v fs).map (·.1)
 | []=>⟨by simp [putF],fun g h=>by simp at h⟩
 | (k,x)::r=>by
  obtain ⟨i1,i2⟩:=keys_putF f v r
  rw [show putF f v ((k,x)::r)=(if k=f then (k,v)::r else (k,x)::putF f v r) from rfl]
  by_cases hk:k=f
  ·rw [if_pos hk]
   subst hk
   exact ⟨by simp,fun g h=>by simpa using h⟩
  ·rw [if_neg hk]
   refine ⟨?_,fun g h=>?_⟩
   ·rw [List.map_cons]
    exact List.mem_cons_of_mem _ i1
   ·rw [List.map_cons] at h ⊢
    rcases List.mem_cons.mp h with e | e
    ·exact List.mem_cons.mpr (.inl e)
    ·exact List.mem_cons_of_mem _ (i2 g e)
theorem length_putF (f:Str) (v:V):∀ fs:List (Str×V),(putF f v fs).length≤fs.length+1
 | []=>by simp [putF]
 | (k,x)::r=>by
  have ih:=length_putF f v r
  rw [show putF f v ((k,x)::r)=(if k=f then (k,v)::r else (k,x)::putF f v r) from rfl]
  by_cases hk:k=f
  ·rw [if_pos hk,List.length_cons,List.length_cons]; omega
  ·rw [if_neg hk,List.length_cons,List.length_cons]; omega

theorem RelO.some_of {v:V} {o:Option Value} (r:RelO (some v) o):∃ u,o=some u∧RelV v u:=by
 cases o with
 | none=>exact (show False from r).elim
 | some u=>exact ⟨u,rfl,r⟩
theorem RelO.none_of {o:Option Value} (r:RelO none o):o=none:=by
 cases o with
 | none=>rfl
 | some u=>exact (show False from r).elim
theorem handed_of {v:V} {u:Value} (r:RelV v u):PySem.W.handedIn u=true:=by
 cases v with
 | non=>cases (show u=Value.none from r); rfl
 | bl b=>cases (show u=Value.bool b from r); rfl
 | int i=>obtain ⟨t,e⟩:=(show ∃ t,u=Value.int i t from r); cases e; rfl
 | str x=>obtain ⟨t,e⟩:=(show ∃ t,u=Value.str x t from r); cases e; rfl
 | byt b=>obtain ⟨t,e⟩:=(show ∃ t,u=Value.bytes b t from r); cases e; rfl
 | flt b=>obtain ⟨t,e⟩:=(show ∃ t,u=Value.float b t from r); cases e; rfl
 | ref a=>cases (show u=Value.ref a from r); rfl
 | ty n=>cases (show u=Value.type n from r); rfl

section
variable {P:Program} {w:World} {H H':Hp} {h h':Heap} {a C dx:Addr} {fs fs':List (Str×V)}
theorem ins_get (hok:HOk P w H h) (e:H a=some (.ins C dx fs)):∃ mA,ObjM h a dx C mA∧(∀ f,RelO (fs.lookup f) (mA f))∧PySem.Within mA (fs.map (·.1))∧fs.length≤1000∧H dx=some (.own a):=by
 obtain ⟨d,z,ne,ob,mA,n,r,q⟩:=(show ObjOk P w H h a (.ins C dx fs) from hok a _ e)
 exact ⟨mA,⟨ob,n,ne⟩,r,q,z,d⟩
end

structure Cls (K:PySem.W.Frag) (C:Addr):Prop where
 pg:PySem.W.plainGet K C Str.empty=true
 hd:PySem.W.hasDictIn K C=true
 po:PySem.W.plainOver K C=true
 sa:PySem.W.findIn K (.ref C) "__setattr__" = some (some (.builtin "object.__setattr__"))
theorem Cls.get {K:PySem.W.Frag} {C:Addr} (c:Cls K C) (f:Str):PySem.W.plainGet K C f=true:=c.pg
noncomputable def NoAttr (K:PySem.W.Frag) (C:Addr) (f:Str):Prop:=PySem.W.findIn K (.ref C) f=some none
theorem NoAttr.taker {K:PySem.W.Frag} {C:Addr} {f:Str} (n:NoAttr K C f):PySem.W.takerIn K C f=some none:=by
 unfold PySem.W.takerIn
 rw [show PySem.W.findIn K (.ref C) f=some none from n]
 rfl
structure Meth (K:PySem.W.Frag) (C:Addr) (m:Str) (f:Addr):Prop where
 at_:PySem.W.findIn K (.ref C) m=some (some (.ref f))
 fn:PySem.W.isFn K (.ref f)=true
 kp:PySem.W.keepIn K (.ref f)=true

section
variable {X:Cx} {pins:List (Addr×Obj)} {σ:St} {H:Hp} {s:Shared} {a C dx:Addr} {fs:List (Str×V)} {f:Str} {v:V} {A:Around} {E:Value→Shared→Prop}

theorem getattr_ok {b:Bool} {Q:Value→Shared→Prop} (I:Inv X pins σ H s) (e:H a=some (.ins C dx fs)) (c:Cls X.K C) (n:NoAttr X.K C f) (l:fs.lookup f=some v)
  (h:∀ u s',Inv X pins σ H s'→RelV v u→Q u s'):wpAny (model X.prog X.w) A (getAttr (.ref a) f b) Q E s:=by
 obtain ⟨mA,O,r,_,_,_⟩:=ins_get I.hok e
 obtain ⟨u,hu,ru⟩:=RelO.some_of (v:=v) (o:=mA f) (by rw [← l]; exact r f)
 exact get_map I.kIn O (c.get f) c.hd n hu (handed_of ru) (h u _ (I.tok _) ru)


theorem getmeth_ok {m:Str} {g:Addr} {pl:Sem Bool} {Q:Value×List Value→Shared→Prop} (I:Inv X pins σ H s) (e:H a=some (.ins C dx fs)) (c:Cls X.K C) (k:Meth X.K C m g) (l:fs.lookup m=none)
  (h:Q (.ref g,[.ref a]) s):wpAny (model X.prog X.w) A (getMethod (.ref a) m pl) Q E s:=by
 obtain ⟨mA,O,r,_,_,_⟩:=ins_get I.hok e
 have hn:mA m=none:=RelO.none_of (by rw [← l]; exact r m)
 exact get_meth I.kIn O (c.get m) k.at_ k.fn hn h

theorem setattr_ok {y:V} {u:Value} {Q:Unit→Shared→Prop} (I:Inv X pins σ H s) (e:H a=some (.ins C dx fs)) (c:Cls X.K C) (n:NoAttr X.K C f) (hl:fs.length<1000) (ry:RelV y u)
  (h:∀ s',Inv X pins σ (upd H a (.ins C dx (putF f y fs))) s'→Q () s'):wpAny (model X.prog X.w) A (setAttr (.ref a) f u) Q E s:=by
 obtain ⟨mA,O,r,wi,_,ho⟩:=ins_get I.hok e
 have hz:(fs.map (·.1)).length≤sizeLine:=by rw [List.length_map,sizeLine_eq]; omega
 refine set_map I.kIn O c.sa c.po n.taker c.hd wi hz fun h' O' sb=>h _ ?_
 have hd:∃ o,h'.get? dx=some o:=let ⟨o,_,_,e',_⟩:=O'.ns; ⟨o,e'⟩
 refine I.write (x:=a) (e:=dx) (by rw [e]; exact True.intro) (.inr ho) (fun b q hb z=>(sb.2 b hb).trans z) hd ?_
 refine ⟨by rw [upd_ne O.ne]; exact ho,?_,O.ne,O'.obj,_,O'.ns,fun g=>?_,fun g hg=>?_⟩
 ·have:=length_putF f y fs; omega
 ·show RelO ((putF f y fs).lookup g) (if g=f then some u else mA g)
  rw [lookup_putF]
  by_cases q:g=f
  ·rw [if_pos q,if_pos q]; exact ry
  ·rw [if_neg q,if_neg q]; exact r g
 ·by_cases q:g=f
  ·rw [q]; exact (keys_putF f y fs).1
  ·refine (keys_putF f y fs).2 g (wi g fun z=>hg ?_)
   show (if g=f then some u else mA g)=none
   rw [if_neg q]; exact z

theorem Inv.made (I:Inv X pins σ H s):Inv X pins σ (upd (upd H s.heap.objs.size (.own (s.heap.objs.size+1))) (s.heap.objs.size+1) (.ins C s.heap.objs.size []))
  { s with heap:=(s.heap.push PySem.W.emptyDict).push (PySem.W.instObj C s.heap.objs.size) }:=by
 have e1:(s.heap.push PySem.W.emptyDict).get? s.heap.objs.size=some PySem.W.emptyDict:=Heap.get?_push_size s.heap rfl
 have e2:((s.heap.push PySem.W.emptyDict).push (PySem.W.instObj C s.heap.objs.size)).get? (s.heap.objs.size+1)=some (PySem.W.instObj C s.heap.objs.size):=by
  have:=Heap.get?_push_size (s.heap.push PySem.W.emptyDict) (o:=PySem.W.instObj C s.heap.objs.size) rfl
  rwa [Heap.size_push] at this
 have e3:(s.heap.push PySem.W.emptyDict).Ns s.heap.objs.size (fun _=>none):=⟨PySem.W.emptyDict,#[],_,e1,rfl,(fun e he=>absurd he (by simp)),fun _=>rfl⟩
 have I1:=I.laid (a:=s.heap.objs.size) (o:=.own (s.heap.objs.size+1)) (h':=s.heap.push PySem.W.emptyDict) (t':=s.toks) (fun b u q=>Heap.get?_push_of_some _ q) (Nat.le_refl _) ⟨_,e1⟩
 refine I1.laid (a:=s.heap.objs.size+1) (o:=.ins C s.heap.objs.size []) (t':=s.toks) (fun b u q=>Heap.get?_push_of_some _ q) (Nat.le_of_eq (Heap.size_push _ _)) ?_
 have ne:s.heap.objs.size≠s.heap.objs.size+1:=Nat.ne_of_lt (Nat.lt_succ_self _)
 refine ⟨by rw [upd_ne ne,upd_same],Nat.zero_le _,ne,e2,fun _=>none,(Heap.Ns1.of_empty e3).at fun o q=>Heap.get?_push_of_some _ q,fun _=>True.intro,fun y hy=>absurd rfl hy⟩

theorem attr_of {prog:Program} {w:World} {env:Env} {e:Expr} {f:Str} {pos:Pos} {s:Shared} {Q:Value→Shared→Prop} (hb:attributeBase e f env (eval e env)=eval e env)
  (h:wpAny (model prog w) A (eval e env) (fun o s₁=>wpAny (model prog w) A (getAttr o f true) Q E s₁) E s):wpAny (model prog w) A (eval (.Attribute e f pos) env) Q E s:=
 Attribute_any_ h (by rw [arm_eval_Attribute,hb])
end

inductive IsFld (K:PySem.W.Frag) (f:Str) (x:V) (H1:Hp) (Q:VK):Prop
 | mk (a C dx:Addr) (fs:List (Str×V)) (v:V) (h1:x=.ref a) (h2:H1 a=some (.ins C dx fs)) (h3:Cls K C) (h4:NoAttr K C f) (h5:fs.lookup f=some v) (q:Q v H1)
noncomputable def tFld (K:PySem.W.Frag) (ta:TE) (f:Str):TE:=fun σ H Q=>ta σ H fun x H1=>IsFld K f x H1 Q
inductive IsPut (K:PySem.W.Frag) (f:Str) (x y:V) (H2:Hp) (R:Hp→Prop):Prop
 | mk (a C dx:Addr) (fs:List (Str×V)) (h1:x=.ref a) (h2:H2 a=some (.ins C dx fs)) (h3:Cls K C) (h4:NoAttr K C f) (h5:fs.length<1000) (q:R (upd H2 a (.ins C dx (putF f y fs))))
noncomputable def sFld (K:PySem.W.Frag) (ta tv:TE) (f:Str):TS:=fun D σ H=>tv σ H fun y H1=>ta σ H1 fun x H2=>IsPut K f x y H2 (D.nx σ)

section
variable {X:Cx} {o e value:Expr} {f:Str} {pos pos' tpos:Pos} {ta tv:TE}
theorem pe_fld (he:PE X e ta) (hb:attributeBase e f X.env (eval e X.env)=eval e X.env):PE X (.Attribute e f pos) (tFld X.K ta f):=by
 intro pins s σ H Q I h
 refine attr_of hb (thn (he pins s σ H _ I h) fun u s1 ⟨x,H1,I1,rx,a,C,dx,fs,v,ex,ea,c,n,l,q⟩=>?_)
 subst ex
 obtain rfl:u=Value.ref a:=rx
 exact getattr_ok I1 ea c n l fun u' s2 I2 ru=>⟨v,H1,I2,ru,q⟩
theorem ps_fld (ha:PE X o ta) (hv:PE X value tv) (hs:swapsWith value (some (.Attribute o f pos')) pos.line X.env=pure false):PS X (.Assign [.Attribute o f pos'] value pos) (sFld X.K ta tv f):=by
 intro pins s σ H D I h
 refine plainObj_wpAny_Assign_Attribute (thn (hv pins s σ H _ I h) fun u s1 ⟨y,H1,I1,ry,q⟩=>thn (ha pins s1 σ H1 _ I1 q) fun ov s2 ⟨x,H2,I2,rx,a,C,dx,fs,ex,ea,c,n,l,q2⟩=>?_) hs
 subst ex
 obtain rfl:ov=Value.ref a:=rx
 exact setattr_ok I2 ea c n l ry fun s3 I3=>⟨σ,_,I3,q2⟩

end

section
variable {X:Cx} {pins:List (Addr×Obj)} {σ:St} {H:Hp} {s:Shared} {A:Around} {E:Value→Shared→Prop} {Q:Value→Shared→Prop} {c:Value} {b:Bool}
inductive TyOf (K:PySem.W.Frag) (H:Hp):V→Value→Prop where
 | non:TyOf K H .non (.type "NoneType")
 | bl (x:Bool):TyOf K H (.bl x) (.type "bool")
 | int (i:Int):TyOf K H (.int i) (.type "int")
 | str (x:Str):TyOf K H (.str x) (.type "str")
 | flt (x:UInt64):TyOf K H (.flt x) (.type "float")
 | lst {a:Addr} {xs:List V} (e:H a=some (.lst xs)):TyOf K H (.ref a) (.type "list")
 | frz {a:Addr} {o:Obj} {xs:List V} (e:H a=some (.frz o (.lst xs))):TyOf K H (.ref a) (.type "list")
 | tup {a:Addr} {xs:List V} (e:H a=some (.tup xs)):TyOf K H (.ref a) (.type "tuple")
 | dK {a:Addr} {kvs:List (Key×V)} (e:H a=some (.dK kvs)):TyOf K H (.ref a) (.type "dict")
 | dT {a:Addr} {kvs:List (List Key×V)} (e:H a=some (.dT kvs)):TyOf K H (.ref a) (.type "dict")
 | ins {a C dx:Addr} {fs:List (Str×V)} (e:H a=some (.ins C dx fs)) (cl:Cls K C) (ha:PySem.W.findIn K (.ref C) "__class__" = some (some (.builtin "object.__class__")))
   (hn:PySem.W.specialIn K (.builtin "object.__class__") "__get__" = some (some (.builtin "getset_descriptor.__get__"))) (htk:PySem.W.takesIn K (.builtin "object.__class__")=some true)
   (hm:PySem.W.mroIn K C (.type "object")=some true):TyOf K H (.ref a) (.ref C)
theorem isinst_ok {x:V} {u t:Value} (I:Inv X pins σ H s) (rx:RelV x u) (ty:TyOf X.K H x t) (e:PySem.W.kitOne X.K t c=some b) (h:∀ tk,Q (.bool b) { s with toks:=tk }) :
  wpAny (model X.prog X.w) A (call (.builtin "isinstance") [u,c]) Q E s:=by
 cases ty with
 | non=>cases (show u=Value.none from rx); exact PySem.W.kia_one PySem.W.kitx_none I.kIn True.intro e (fun z=>nomatch z) h
 | bl y=>cases (show u=Value.bool y from rx); exact PySem.W.kia_one PySem.W.kitx_bool I.kIn True.intro e (fun z=>nomatch z) h
 | int i=>obtain ⟨t,q⟩:=(show ∃ t,u=Value.int i t from rx); cases q; exact PySem.W.kia_one PySem.W.kitx_int I.kIn True.intro e (fun z=>nomatch z) h
 | str y=>obtain ⟨t,q⟩:=(show ∃ t,u=Value.str y t from rx); cases q; exact PySem.W.kia_one PySem.W.kitx_str I.kIn True.intro e (fun z=>nomatch z) h
 | flt y=>obtain ⟨t,q⟩:=(show ∃ t,u=Value.float y t from rx); cases q; exact PySem.W.kia_one PySem.W.kitx_float I.kIn True.intro e (fun z=>nomatch z) h
 | @lst a xs ea=>
  cases (show u=Value.ref a from rx)
  obtain ⟨_,_,n,_,h1⟩:=(show ObjOk X.prog X.w H s.heap a (.lst xs) from I.hok a _ ea)
  exact PySem.W.kia_one PySem.W.kitx_list I.kIn ⟨_,h1,rfl⟩ e (fun z=>nomatch z) h
 | @frz a ob xs ea=>
  cases (show u=Value.ref a from rx)
  obtain ⟨_,_,_,n,_,h1⟩:=(show ObjOk X.prog X.w H s.heap a (.frz ob (.lst xs)) from I.hok a _ ea)
  exact PySem.W.kia_one PySem.W.kitx_list I.kIn ⟨_,h1,rfl⟩ e (fun z=>nomatch z) h
 | @tup a xs ea=>
  cases (show u=Value.ref a from rx)
  obtain ⟨_,_,_,p⟩:=(show ObjOk X.prog X.w H s.heap a (.tup xs) from I.hok a _ ea)
  obtain ⟨o,h1,h2,_⟩:=p
  exact PySem.W.kia_one PySem.W.kitx_tuple I.kIn ⟨o,h1,h2⟩ e (fun z=>nomatch z) h
 | @dK a kvs ea=>
  cases (show u=Value.ref a from rx)
  obtain ⟨_,_,vs,_,p⟩:=(show ObjOk X.prog X.w H s.heap a (.dK kvs) from I.hok a _ ea)
  obtain ⟨o,es,ep,h1,h2,_⟩:=p
  exact PySem.W.kia_one PySem.W.kitx_dict I.kIn ⟨o,h1,h2.1⟩ e (fun z=>nomatch z) h
 | @dT a kvs ea=>
  cases (show u=Value.ref a from rx)
  obtain ⟨_,_,xs,_,o,es,ep,h1,h2,_⟩:=(show ObjOk X.prog X.w H s.heap a (.dT kvs) from I.hok a _ ea)
  exact PySem.W.kia_one PySem.W.kitx_dict I.kIn ⟨o,h1,h2.1⟩ e (fun z=>nomatch z) h
 | @ins a C dx fs ea cl ha hn htk hm=>
  cases (show u=Value.ref a from rx)
  obtain ⟨mA,O,_⟩:=ins_get I.hok ea
  obtain ⟨od,J,_⟩:=O.look
  exact PySem.W.kia_one (PySem.W.kitx_own (cl.get _) cl.hd ha hn htk hm) I.kIn J e (fun z=>nomatch z) h
end
end L2

namespace L2
open PySem PySem.Spec PyProof.Rows

structure Room (k:Nat) (A:Around):Prop where
 hd:A.handled=none
 dp:A.depth+3*k+5<recursionLimit
 un:A.units+16*k+200<cLine
theorem Room.mono {j k:Nat} {A:Around} (r:Room k A) (h:j≤k):Room j A:=⟨r.hd,by have:=r.dp; omega,by have:=r.un; omega⟩
theorem Room.deeper {k:Nat} {A:Around} (r:Room (k+1) A) (env:Env):Room k (A.deeper env):=
 ⟨r.hd,by have:=r.dp; show A.depth+1+3*k+5<_; omega,by have:=r.un; show A.units+3+16*k+200<_; omega⟩
theorem make_depth {A:Around} {C:Addr} {us:List Value} {kw:List (Str×Value)}:(A.under (.builtin "type.__call__" ⟨.ref C::us,kw⟩)).depth=A.depth+1:=by
 first | rfl | simp [Around.under,Code.weight,Code.isCreation,Code.isGuard,Code.isCaller,Code.frames,Code.isFrame,guardIds]
theorem make_units {A:Around} {C:Addr} {us:List Value} {kw:List (Str×Value)}:(A.under (.builtin "type.__call__" ⟨.ref C::us,kw⟩)).units=A.units+1:=by
 first | rfl | simp [Around.under,Code.cUnits,Code.frames,Code.isFrame]
theorem Room.make {k:Nat} {A:Around} (r:Room (k+1) A) (C:Addr) (us:List Value) (kw:List (Str×Value)):Room k (A.under (.builtin "type.__call__" ⟨.ref C::us,kw⟩)):=
 ⟨r.hd,by have:=r.dp; rw [make_depth]; omega,by have:=r.un; rw [make_units]; omega⟩
theorem Room.depth {k:Nat} {A:Around} (r:Room k A):A.depth<recursionLimit:=by have:=r.dp; omega
theorem Room.units {k:Nat} {A:Around} (r:Room k A):A.units+64<cLine:=by have:=r.un; omega

noncomputable def tNil:TA:=fun _ H Q=>Q [] H
noncomputable def tCons (ta:TE) (tr:TA):TA:=fun σ H Q=>ta σ H fun x H1=>tr σ H1 fun xs H2=>Q (x::xs) H2
section
variable {X:Cx} {e:Expr} {es:List Expr} {te:TE} {t:TA} {pos:Pos}
theorem pa_nil:PA X [] tNil:=fun _ _ _ _ H Q I h=>Calls.spliced_nil ⟨[],H,I,.nil,h⟩
theorem pa_cons (ha:PE X e te) (hr:PA X es t) (hs:starEach (e::es) X.env=(false,eval e X.env)::starEach es X.env:=by rfl):PA X (e::es) (tCons te t):=by
 intro pos pins s σ H Q I h
 rw [hs]
 show wpAny _ _ (spliced ((false,eval e X.env)::backTo pos (starEach es X.env))) _ _ s
 refine Calls.spliced_cons (thn (ha pins s σ H _ I h) fun u s1 ⟨x,H1,I1,r1,q1⟩=>?_)
 exact thn (hr pos pins s1 σ H1 _ I1 q1) fun us s2 ⟨xs,H2,I2,r2,q2⟩=>⟨x::xs,H2,I2,.cons r1 r2,q2⟩

noncomputable def tTup (t:TA):TE:=fun σ H Q=>t σ H fun xs H1=>xs.length≤sizeLine∧∀ p,H1 p=none→Q (.ref p) (upd H1 p (.tup xs))
noncomputable def tLst (t:TA):TE:=fun σ H Q=>t σ H fun xs H1=>xs.length≤sizeLine∧∀ p,H1 p=none→Q (.ref p) (upd H1 p (.lst xs))
theorem pe_tup {x1} (h:PA X es t):PE X (.Tuple es x1 pos) (tTup t):=by
 intro pins s σ H Q I hq
 refine wpAny_Tuple_spliced (thn (h pos pins s σ H _ I hq) fun us s1 ⟨xs,H1,I1,r,z,q⟩=>⟨by rw [← r.length]; exact z,?_⟩)
 have hf:H1 s1.heap.objs.size=none:=I1.hok.fresh (Nat.le_refl _)
 refine ⟨.ref s1.heap.objs.size,upd H1 s1.heap.objs.size (.tup xs),I1.laid (t':=s1.toks) (fun b u e=>Heap.get?_push_of_some _ e) (Nat.le_refl _) ?_,rfl,q _ hf⟩
 exact ⟨z,us,r,⟨_,Heap.get?_push_size _ rfl,rfl,_,rfl⟩⟩
theorem pe_lst (h:PA X es t):PE X (.List es pos) (tLst t):=by
 intro pins s σ H Q I hq
 refine wpAny_List_spliced (thn (h pos pins s σ H _ I hq) fun us s1 ⟨xs,H1,I1,r,z,q⟩=>⟨by rw [← r.length]; exact z,?_⟩)
 have hf:H1 s1.heap.objs.size=none:=I1.hok.fresh (Nat.le_refl _)
 refine ⟨.ref s1.heap.objs.size,upd H1 s1.heap.objs.size (.lst xs),I1.laid (t':=s1.toks) (fun b u e=>Heap.get?_push_of_some _ e) (Nat.le_refl _) ?_,rfl,q _ hf⟩
 exact ⟨z,us,0,r,Heap.get?_push_size _ rfl⟩
end

noncomputable abbrev Sp:=List V→Hp→VK→XK→Prop
noncomputable abbrev CXT:=List Env→Hp→Shared→XK→Value→Shared→Prop

structure Env0 (P:Program) (w:World) (K:PySem.W.Frag) (mg:Str→Option Value) (base:Heap) (A:Around) (outer:List Env) (s:Shared) (H:Hp):Prop where
 frames:A.frames=some outer
 mod:Mod K mg base
 bs:∀ b o,base.get? b=some o→s.heap.get? b=some o∧H b=none
 bsz:base.objs.size≤s.heap.objs.size
 funs:s.heap.FunFrames base outer
 frf:∀ b∈frs outer,H b=none
 hok:HOk P w H s.heap
 bare:AllBare s.gens
inductive CE (outer:List Env) (P:Program) (w:World) (H:Hp) (s:Shared) (Q:VK) (u:Value) (s':Shared):Prop
 | mk (v:_) (H':_) (h0_:s'.os=s.os) (h1_:AllBare s'.gens) (h2_:Un (frs outer) [] H H' s.heap s'.heap) (h3_:HOk P w H' s'.heap) (h4_:RelV v u) (h5_:Q v H')
noncomputable def CR (CX:CXT) (outer:List Env) (P:Program) (w:World) (H:Hp) (s:Shared) (Q:VK) (E:XK) (r:Result) (s':Shared):Prop:=
 match r with
 | .ok (.ret u)=>CE outer P w H s Q u s'
 | .ok _=>False
 | .error e=>CX outer H s E e s'
structure FnOk (P:Program) (w:World) (K:PySem.W.Frag) (mg:Str→Option Value) (base:Heap) (CX:CXT) (k:Nat) (f:Addr) (fd:FuncData) (ps:List Str) (sp:Sp):Prop where
 len:∀ vs H Q E,sp vs H Q E→vs.length=ps.length
 run:∀ (A:Around) (outer:List Env) (s:Shared) (H:Hp) (args:Args) (us:List Value) (vs:List V) (Q:VK) (E:XK),Room k A→Env0 P w K mg base A outer s H→BindsTo s fd args (ps.zip us)→Vals vs us→sp vs H Q E →
  codeAny (model P w) A (.call (.ref f) args) (CR CX outer P w H s Q E) s

theorem Env0.make {P:Program} {w:World} {K:PySem.W.Frag} {mg:Str→Option Value} {base:Heap} {A:Around} {outer:List Env} {s:Shared} {H:Hp} (e:Env0 P w K mg base A outer s H) (C:Addr) (us:List Value) (kw:List (Str×Value)) :
  Env0 P w K mg base (A.under (.builtin "type.__call__" ⟨.ref C::us,kw⟩)) outer s H:=⟨by first | exact e.frames | (simpa [Around.under,Code.envs,Code.isFrame,pushEnvs] using e.frames),e.mod,e.bs,e.bsz,e.funs,e.frf,e.hok,e.bare⟩

section
variable {X:Cx} {pins:List (Addr×Obj)} {σ:St} {H:Hp} {s s':Shared}
theorem Inv.env0 (I:Inv X pins σ H s):Env0 X.prog X.w X.K X.mg X.base X.A X.stack s H:=
 ⟨I.ok.frames,I.ok.mod,I.bs,Nat.le_trans I.ok.bsz I.sz,I.stack,I.stkFree,I.hok,I.bare⟩
theorem Inv.after {Q:VK} {u:Value} (I:Inv X pins σ H s) (h:CE X.stack X.prog X.w H s Q u s'):EP X pins σ Q u s':=by
 obtain ⟨v,H',os,bare,un,hok,r,q⟩:=h
 obtain ⟨hh,g,d,t,os'⟩:=s'
 obtain rfl:os'=s.os:=os
 exact ⟨v,H',I.call (h':=hh) (g':=g) (d':=d) (t':=t) (ch:=[]) un hok bare (fun b z=>absurd z (by simp)),r,q⟩
end

noncomputable def tCall (sp:Sp) (dvs:List V) (E:XK) (t:TA):TE:=fun σ H Q=>t σ H fun vs H1=>sp (vs++dvs) H1 Q E
inductive IsMeth (C:Addr) (m:Str) (x:V) (H1:Hp) (R:Prop):Prop
 | mk (a dx:Addr) (fs:List (Str×V)) (h1:x=.ref a) (h2:H1 a=some (.ins C dx fs)) (h3:fs.lookup m=none) (r:R)
noncomputable def tMeth (C:Addr) (m:Str) (sp:Sp) (dvs:List V) (E:XK) (ta:TE) (t:TA):TE:=fun σ H Q=>ta σ H fun x H1=>IsMeth C m x H1 (t σ H1 fun vs H2=>sp (x::(vs++dvs)) H2 Q E)
noncomputable def tMake (C:Addr) (sp:Sp) (dvs:List V) (E:XK) (t:TA):TE:=fun σ H Q=>t σ H fun vs H1=>∀ x dx,H1 x=none→H1 dx=none→dx≠x →
 sp (.ref x::(vs++dvs)) (upd (upd H1 dx (.own x)) x (.ins C dx [])) (fun v H2=>v=.non∧Q (.ref x) H2) E

noncomputable def Binds (K:PySem.W.Frag) (fd:FuncData) (ps:List Str) (ds:List Value):Prop:=
 ∀ (s:Shared) (us:List Value),K.In s.heap→(us++ds).length=ps.length→BindsTo s fd ⟨us,[]⟩ (ps.zip (us++ds))
theorem Binds.all {K:PySem.W.Frag} {fd:FuncData} {ps:List Str} (h:∀ us:List Value,us.length=ps.length→bindArgs fd ⟨us,[]⟩=pure (ps.zip us)):Binds K fd ps []:=fun s us _ hl=>by
 rw [List.append_nil] at hl ⊢
 exact .of_eq (h us hl)

noncomputable def Passes (CX:CXT) (X:Cx) (E:XK):Prop:=∀ (pins:List (Addr×Obj)) (σ:St) (H:Hp) (s:Shared) (e:Value) (s':Shared),Inv X pins σ H s→CX X.stack H s E e s'→X.xe e s'

section
variable {X:Cx} {CX:CXT} {k:Nat} {f C:Addr} {fd:FuncData} {ps:List Str} {sp:Sp} {dvs:List V} {ds:List Value} {E:XK} {x m:Str} {p pos apos:Pos} {e o:Expr} {es:List Expr} {ta:TE} {t:TA}

theorem run_fn {pins:List (Addr×Obj)} {σ:St} {H:Hp} {s:Shared} {Q:VK} {us:List Value} {vs:List V} (F:FnOk X.prog X.w X.K X.mg X.base CX k f fd ps sp) (hr:Room k X.A) (hb:Binds X.K fd ps ds) (hd:Vals dvs ds) (hx:Passes CX X E)
  (I:Inv X pins σ H s) (r:Vals vs us) (h:sp (vs++dvs) H Q E):wpAny (model X.prog X.w) X.A (call (.ref f) us) (EP X pins σ Q) X.xe s:=by
 have r2:Vals (vs++dvs) (us++ds):=r.append hd
 have hl:(us++ds).length=ps.length:=by rw [← r2.length]; exact F.len _ _ _ _ h
 refine wpAny_call (codeAny_mono (F.run X.A X.stack s H ⟨us,[]⟩ (us++ds) (vs++dvs) Q E hr I.env0 (hb s us I.kIn hl) r2 h) fun r s' hq=>?_)
 cases r with
 | error e=>exact hx pins σ H s e s' I hq
 | ok fl=>
  cases fl with
  | ret u=>exact I.after hq
  | next=>exact False.elim hq
  | brk=>exact False.elim hq
  | cont=>exact False.elim hq

theorem pe_call (F:FnOk X.prog X.w X.K X.mg X.base CX k f fd ps sp) (hr:Room k X.A) (hg:Gl X x) (hm:X.mg x=some (.ref f)) (hk:PySem.W.keepIn X.K (.ref f)=true) (hb:Binds X.K fd ps ds) (hd:Vals dvs ds) (hx:Passes CX X E)
  (ha:PA X (e::es) t) (hdb:(x==("__debug__" : Str))=false:=by decide) (he:starEach (e::es) X.env=(false,eval e X.env)::starEach es X.env:=by rfl) (hpl:(backTo pos (starEach es X.env)).any (·.1)=false:=by rfl) :
  PE X (.Call (.Name x p) (e::es) [] pos) (tCall sp dvs E t):=by
 intro pins s σ H Q I h
 refine wpAny_Call_Name_kw (ld_glob I hg hm ?_ hdb)
 refine PySem.W.callWith_K (h₀:=X.base) I.ok.mod.kin hk (thn (ha pos pins s σ H _ I h) fun us s1 ⟨vs,H1,I1,r,q⟩=>⟨I1.kIn,?_⟩) he hpl
 exact run_fn F hr hb hd hx I1 r q

theorem pe_meth {pl:Sem Bool} (he:PE X o ta) (c:Cls X.K C) (hm:Meth X.K C m f) (F:FnOk X.prog X.w X.K X.mg X.base CX k f fd ps sp) (hr:Room k X.A) (hb:Binds X.K fd ps ds) (hd:Vals dvs ds) (hx:Passes CX X E) (ha:PA X (e::es) t)
  (hst:starEach (e::es) X.env=(false,eval e X.env)::starEach es X.env:=by rfl) (hpl:(backTo pos (starEach es X.env)).any (·.1)=false:=by rfl)
  (ht:eval (.Call (.Attribute o m apos) (e::es) [] pos) X.env=(do
   let ov ← eval o X.env
   standAt apos.atName
   let (f,first) ← holding [ov] (getMethod ov m pl)
   callWith pos f first (backTo pos (starEach (e::es) X.env)) (backToKw pos (keywordEach [] X.env))):=by rfl) :
  PE X (.Call (.Attribute o m apos) (e::es) [] pos) (tMeth C m sp dvs E ta t):=by
 intro pins s σ H Q I h
 refine PySem.W.methodCall_KW (pl:=pl) (thn (he pins s σ H _ I h) fun u s1 ⟨x,H1,I1,rx,a,dx,fs,ex,ea,l,q⟩=>?_) ht
 subst ex
 obtain rfl:u=Value.ref a:=rx
 refine getmeth_ok I1 ea c hm l ?_
 refine PySem.W.callWith_K (first:=[.ref a]) (h₀:=X.base) I.ok.mod.kin hm.kp (thn (ha pos pins s1 σ H1 _ I1 q) fun us s2 ⟨vs,H2,I2,r,q2⟩=>⟨I2.kIn,?_⟩) hst hpl
 exact run_fn (us:=.ref a::us) (vs:=.ref a::vs) F hr hb hd hx I2 (.cons rfl r) q2
theorem pe_meth0 {pl:Sem Bool} (he:PE X o ta) (c:Cls X.K C) (hm:Meth X.K C m f) (F:FnOk X.prog X.w X.K X.mg X.base CX k f fd ps sp) (hr:Room k X.A) (hb:Binds X.K fd ps ds) (hd:Vals dvs ds) (hx:Passes CX X E)
  (ht:eval (.Call (.Attribute o m apos) [] [] pos) X.env=(do
   let ov ← eval o X.env
   standAt apos.atName
   let (f,first) ← holding [ov] (getMethod ov m pl)
   callWith pos f first (backTo pos (starEach [] X.env)) (backToKw pos (keywordEach [] X.env))):=by rfl) :
  PE X (.Call (.Attribute o m apos) [] [] pos) (tMeth C m sp dvs E ta tNil):=by
 intro pins s σ H Q I h
 refine PySem.W.methodCall_KW (pl:=pl) (thn (he pins s σ H _ I h) fun u s1 ⟨x,H1,I1,rx,a,dx,fs,ex,ea,l,q⟩=>?_) ht
 subst ex
 obtain rfl:u=Value.ref a:=rx
 refine getmeth_ok I1 ea c hm l ?_
 exact PySem.W.callWith_K0 (first:=[.ref a]) I1.kIn hm.kp (run_fn (us:=[.ref a]) (vs:=[.ref a]) F hr hb hd hx I1 (.cons rfl .nil) q)

structure Mk (K:PySem.W.Frag) (C f:Addr):Prop where
 makes:PySem.W.makesIn K C=true
 init:PySem.W.findIn K (.ref C) "__init__"=some (some (.ref f))
 fn:PySem.W.isFn K (.ref f)=true
 kp:PySem.W.keepIn K (.ref C)=true

theorem run_make {pins:List (Addr×Obj)} {σ:St} {H:Hp} {s:Shared} {Q:VK} {us:List Value} {vs:List V} (M:Mk X.K C f) (F:FnOk X.prog X.w X.K X.mg X.base CX k f fd ps sp) (hr:Room (k+1) X.A) (hb:Binds X.K fd ps ds) (hd:Vals dvs ds)
  (hx:Passes CX X E) (I:Inv X pins σ H s) (r:Vals vs us)
  (h:∀ x dx,H x=none→H dx=none→dx≠x→sp (.ref x::(vs++dvs)) (upd (upd H dx (.own x)) x (.ins C dx [])) (fun v H2=>v=.non∧Q (.ref x) H2) E) :
  wpAny (model X.prog X.w) X.A (call (.ref C) us) (EP X pins σ Q) X.xe s:=by
 have hq:=h (s.heap.objs.size+1) s.heap.objs.size (I.hok.fresh (Nat.le_succ _)) (I.hok.fresh (Nat.le_refl _)) (Nat.ne_of_lt (Nat.lt_succ_self _))
 have I2:=Inv.made (C:=C) I
 have r2:Vals (V.ref (s.heap.objs.size+1)::(vs++dvs)) (Value.ref (s.heap.objs.size+1)::(us++ds)):=.cons rfl (r.append hd)
 have hl:(Value.ref (s.heap.objs.size+1)::us++ds).length=ps.length:=by
  have e:=r2.length
  rw [F.len _ _ _ _ hq] at e
  exact e.symm
 refine wpAny_call (make_map (f:=f) I.kIn M.makes M.init (beq_iff_eq.mp M.fn) (codeAny_mono (F.run _ X.stack _ _ ⟨Value.ref (s.heap.objs.size+1)::us,[]⟩ (Value.ref (s.heap.objs.size+1)::(us++ds)) _ _ E (hr.make C us [])
  (I2.env0.make C us []) (hb _ (Value.ref (s.heap.objs.size+1)::us) I2.kIn hl) r2 hq) fun r s' hq'=>?_))
 cases r with
 | error e=>exact hx pins σ _ _ e s' I2 hq'
 | ok fl=>
  cases fl with
  | ret u=>
   obtain ⟨v,H',I3,rv,ev,q3⟩:=I2.after hq'
   subst ev
   exact ⟨rv,⟨V.ref (s.heap.objs.size+1),H',I3,rfl,q3⟩⟩
  | next=>exact False.elim hq'
  | brk=>exact False.elim hq'
  | cont=>exact False.elim hq'
theorem pe_make (M:Mk X.K C f) (F:FnOk X.prog X.w X.K X.mg X.base CX k f fd ps sp) (hr:Room (k+1) X.A) (hg:Gl X x) (hm:X.mg x=some (.ref C)) (hb:Binds X.K fd ps ds) (hd:Vals dvs ds) (hx:Passes CX X E)
  (ha:PA X (e::es) t) (hdb:(x==("__debug__" : Str))=false:=by decide) (he:starEach (e::es) X.env=(false,eval e X.env)::starEach es X.env:=by rfl) (hpl:(backTo pos (starEach es X.env)).any (·.1)=false:=by rfl) :
  PE X (.Call (.Name x p) (e::es) [] pos) (tMake C sp dvs E t):=by
 intro pins s σ H Q I h
 refine wpAny_Call_Name_kw (ld_glob I hg hm ?_ hdb)
 refine PySem.W.callWith_K (h₀:=X.base) I.ok.mod.kin M.kp (thn (ha pos pins s σ H _ I h) fun us s1 ⟨vs,H1,I1,r,q⟩=>⟨I1.kIn,?_⟩) he hpl
 exact run_make M F hr hb hd hx I1 r q
end

section
variable {X:Cx} {CX:CXT} {k:Nat} {f C:Addr} {fd:FuncData} {ps ks:List Str} {sp:Sp} {E:XK} {x m:Str} {p pos apos kpos:Pos} {e o:Expr} {es:List Expr} {kws:List Keyword} {te ta:TE} {t tk:TA} {nm:Option Str}

variable {g:List Value→List Value→List Value} {gV:List V→List V→List V}
end

structure FnScope (N P:List Str) (sc:Scope):Prop where
 kind:sc.kind=.function
 co:sc.isCoroutine=false
 gen:sc.isGenerator=false
 nd:N.Nodup
 pre:N.take P.length=P
 par:∀ x∈P,sc.names.lookup x=some .local∨sc.names.lookup x=some .cell
 nofree:∀ y∈sc.names,y.2≠.free

theorem bindL_out {kindOf:Str→Option NameKind} {x:Str}:∀ {binds:List (Str×Value)} {m:Str→Option Value},(∀ v,(x,v)∉binds)→bindL kindOf binds m x=m x
 | [],_,_=>rfl
 | (n,v)::r,m,h=>by
  unfold bindL
  rw [bindL_out fun w hw=>h w (List.mem_cons_of_mem _ hw)]
  split
  ·have:x≠n:=by rintro rfl; exact h v List.mem_cons_self
   simp [this]
  ·rfl
theorem bindC_out {kindOf:Str→Option NameKind} {x:Str}:∀ {binds:List (Str×Value)} {m:Str→Option Value},(∀ v,(x,v)∉binds)→bindC kindOf binds m x=m x
 | [],_,_=>rfl
 | (n,v)::r,m,h=>by
  unfold bindC
  rw [bindC_out fun w hw=>h w (List.mem_cons_of_mem _ hw)]
  split
  ·rfl
  ·have:x≠n:=by rintro rfl; exact h v List.mem_cons_self
   simp [this]
theorem bindL_get {kindOf:Str→Option NameKind} {x:Str} {v:Value}:∀ {P:List Str} {vs:List Value} {i:Nat} {m:Str→Option Value},P.Nodup→P[i]?=some x→vs[i]?=some v→kindOf x=some .local →
  bindL kindOf (P.zip vs) m x=some v
 | [],_,_,_,_,h,_,_=>by simp at h
 | _::_,[],_,_,_,_,h,_=>by simp at h
 | p::P,w::vs,0,m,nd,h1,h2,hk=>by
  simp at h1 h2; subst h1; subst h2
  show bindL kindOf ((p,w)::P.zip vs) m p=_
  unfold bindL
  rw [bindL_out fun v hv=>(List.nodup_cons.mp nd).1 (List.of_mem_zip hv).1,if_pos hk]
  simp
 | p::P,w::vs,i+1,m,nd,h1,h2,hk=>by
  show bindL kindOf ((p,w)::P.zip vs) m x=_
  unfold bindL
  exact bindL_get (i:=i) (List.nodup_cons.mp nd).2 (by simpa using h1) (by simpa using h2) hk
theorem bindC_get {kindOf:Str→Option NameKind} {x:Str} {v:Value}:∀ {P:List Str} {vs:List Value} {i:Nat} {m:Str→Option Value},P.Nodup→P[i]?=some x→vs[i]?=some v→kindOf x≠some .local →
  bindC kindOf (P.zip vs) m x=some v
 | [],_,_,_,_,h,_,_=>by simp at h
 | _::_,[],_,_,_,_,h,_=>by simp at h
 | p::P,w::vs,0,m,nd,h1,h2,hk=>by
  simp at h1 h2; subst h1; subst h2
  show bindC kindOf ((p,w)::P.zip vs) m p=_
  unfold bindC
  rw [bindC_out fun v hv=>(List.nodup_cons.mp nd).1 (List.of_mem_zip hv).1,if_neg hk]
  simp
 | p::P,w::vs,i+1,m,nd,h1,h2,hk=>by
  show bindC kindOf ((p,w)::P.zip vs) m x=_
  unfold bindC
  exact bindC_get (i:=i) (List.nodup_cons.mp nd).2 (by simpa using h1) (by simpa using h2) hk

noncomputable def start (N:List Str) (vs:List V):St:=vs.map some++List.replicate (N.length-vs.length) none

noncomputable def cxOf (CX:CXT) (P:Program) (w:World) (K:PySem.W.Frag) (mg:Str→Option Value) (base:Heap) (N:List Str) (qual:Str) (scope:Scope) (f:Addr) (cd:Value) (A:Around) (outer:List Env) (s:Shared) (H:Hp) (E:XK):Cx where
 prog:=P
 w:=w
 K:=K
 mg:=mg
 base:=base
 A:=A.deeper (envOfC qual scope s.heap.objs.size f cd)
 N:=N
 s₀:=s
 H₀:=H
 env:=envOfC qual scope s.heap.objs.size f cd
 outer:=outer
 stack:=envOfC qual scope s.heap.objs.size f cd::outer
 ex:=[]
 calm:=true
 fn:=fun _=>true
 pn:=[]
 xe:=fun e s'=>wpAny (model P w) (A.deeper (envOfC qual scope s.heap.objs.size f cd)) (leaving (envOfC qual scope s.heap.objs.size f cd) e) (fun _ s''=>CX outer H s E e s'') (fun e' s''=>CX outer H s E e' s'') s'

theorem cell_has {sc:Scope} {n:Nat} {x:Str} (h:sc.names.lookup x=some .cell):∃ c,(cellsFrom n sc.names []).lookup x=some c:=by
 have q:=PySem.W.cellsFrom_some sc.names n [] (.inl h)
 exact Option.isSome_iff_exists.mp q

theorem inv_start {CX:CXT} {P:Program} {w:World} {K:PySem.W.Frag} {mg:Str→Option Value} {base:Heap} {N ps:List Str} {qual:Str} {scope:Scope} {f:Addr} {cd:Value} {A:Around} {outer:List Env} {s s1:Shared} {H:Hp} {E:XK} {us:List Value} {vs:List V}
  (S:FnScope N ps scope) (hd:A.handled=none) (e0:Env0 P w K mg base A outer s H) (hl:vs.length=ps.length) (r:Vals vs us)
  (x:InCallC s s.heap.objs.size (bindL (envOfC qual scope s.heap.objs.size f cd).kindOf (ps.zip us) fun _=>none) (cellsFrom (s.heap.objs.size+1) scope.names []) (bindC (envOfC qual scope s.heap.objs.size f cd).kindOf (ps.zip us) fun _=>none) s1) :
  Inv (cxOf CX P w K mg base N qual scope f cd A outer s H E) [] (start N vs) H s1:=by
 have hpl:ps.length≤N.length:=by have:=congrArg List.length S.pre; rw [List.length_take] at this; omega
 obtain ⟨h1,tk,rfl,hk⟩:=x.done
 have noA:∀ b:Addr,b∉(cxOf CX P w K mg base N qual scope f cd A outer s H E).ex:=fun b z=>absurd (show b∈([]:List Addr) from z) (by simp)
 refine ⟨⟨e0.mod,S.kind,rfl,rfl,Nat.le_refl _,fun y z c h1 h2=>?_,fun y hy=>?_,fun y c _ h=>?_,fun _=>hd,Around.frames_deeper e0.frames,.inr ⟨rfl,rfl⟩,fun b z=>absurd z (noA b),e0.bs,e0.bsz,fun b _ _=>noA b,fun b z=>absurd z (noA b),e0.funs,e0.frf⟩,
  rfl,e0.bare,Un.kept hk,⟨_,x.toInCall.ns,fun i y v h1 h2 h3=>?_⟩,fun y c h=>⟨_,x.cell y c h⟩,e0.hok.fresh (Nat.le_refl _),fun y c h=>?_,fun p hp=>absurd (show p∈([]:List (Addr×Obj)) from hp) (by simp),e0.hok.kept hk,?_⟩
 ·exact name_of_addr x.apart (PySem.mem_of_lookup h1) (PySem.mem_of_lookup h2)
 ·have hy:scope.names.lookup y=some .cell∨scope.names.lookup y=some .free:=hy
  rcases hy with hy | hy
  ·exact cell_has hy
  ·exact absurd rfl (S.nofree _ (PySem.mem_of_lookup hy))
 ·exact Nat.le_of_lt (x.above y c (PySem.mem_of_lookup h))
 ·have hi:i<vs.length:=by
   unfold start at h2
   by_cases hi:i<vs.length
   ·exact hi
   ·rw [List.getElem?_append_right (by simpa using hi)] at h2
    rw [List.getElem?_replicate] at h2
    split at h2 <;> cases h2
  have ha:vs[i]?=some v:=by
   unfold start at h2
   rw [List.getElem?_append_left (by simpa using hi),List.getElem?_map] at h2
   cases e:vs[i]? with
   | none=>rw [e] at h2; cases h2
   | some a=>rw [e] at h2; cases h2; rfl
  obtain ⟨u,hu,rv⟩:=r.get ha
  have hp:ps[i]?=some y:=by
   rw [← S.pre,List.getElem?_take_of_lt (by omega)]; exact h1
  have ndP:ps.Nodup:=by rw [← S.pre]; exact S.nd.sublist (List.take_sublist _ _)
  refine ⟨u,rv,?_⟩
  rcases S.par y (List.mem_of_getElem? hp) with k | k
  ·exact .inl ⟨k,bindL_get ndP hp hu k⟩
  ·obtain ⟨c,e⟩:=cell_has (n:=s.heap.objs.size+1) k
   refine .inr ⟨.inl k,c,e,?_⟩
   have q:=x.cell y c e
   rw [bindC_get ndP hp hu (by show scope.names.lookup y≠_; rw [k]; decide)] at q
   exact q
 ·exact e0.hok.fresh (Nat.le_of_lt (x.above y c (PySem.mem_of_lookup h)))
 ·unfold start
  show _=N.length
  rw [List.length_append,List.length_map,List.length_replicate]
  omega

theorem fn_of {CX:CXT} {P:Program} {w:World} {K:PySem.W.Frag} {mg:Str→Option Value} {base:Heap} {k:Nat} {f:Addr} {name qual:Str} {params:Arguments} {body:List Stmt} {scope:Scope} {dV kV doc pm cdv ct oc:Value} {an od:Option Addr}
  {osl:Array (Option Value)} {N ps:List Str} {sp:Sp} (lk:K.lookup f=some ⟨oc,od,.func (PySem.W.fnOf name qual params body scope dV kV doc pm an cdv ct),osl⟩) (hcd:PySem.W.codeIn K cdv qual=true) (S:FnScope N ps scope)
  (len:∀ vs H Q E,sp vs H Q E→vs.length=ps.length)
  (hbody:∀ (A:Around) (outer:List Env) (s:Shared) (H:Hp) (vs:List V) (Q:VK) (E:XK),Room k (A.deeper (envOfC qual scope s.heap.objs.size f cdv))→sp vs H Q E →
   ∃ t,PSs (cxOf CX P w K mg base N qual scope f cdv A outer s H E) body t∧t { nx:=fun _ H'=>Q .non H',rt:=Q } (start N vs) H) :
  FnOk P w K mg base CX (k+1) f (PySem.W.fnOf name qual params body scope dV kV doc pm an cdv ct) ps sp:=by
 refine ⟨len,fun A outer s H args us vs Q E hr e0 hb r hsp=>?_⟩
 have hl:=len _ _ _ _ hsp
 have KX:K.In s.heap:=e0.mod.kin.keeps fun b o e=>(e0.bs b o e).1
 have lim:s.heap.NoLimit:=e0.mod.nolimit.keeps fun b o e=>(e0.bs b o e).1
 have hkind:∀ y∈ps.zip us,scope.names.lookup y.1=some .local∨(scope.names.lookup y.1=some .cell∧((cellsFrom (s.heap.objs.size+1) scope.names []).lookup y.1).isSome=true):=fun ⟨n,v⟩ hy=>by
  rcases S.par n (List.of_mem_zip hy).1 with q | q
  ·exact .inl q
  ·exact .inr ⟨q,PySem.W.cellsFrom_some _ _ _ (.inl q)⟩
 refine codeAny_call_function hr.depth (KX _ _ lk) rfl S.co S.gen rfl (PySem.W.codeRec_of KX hcd) (hb _ _ _ _ ?_)
 refine wpAny_newFunctionEnv_cells S.kind hkind fun env he s1 x=>?_
 subst he
 refine ⟨lim.keeps x.toInCall.keep,codeAny_func ?_⟩
 obtain ⟨t,ht,hq⟩:=hbody A outer s H vs Q E (hr.deeper _) hsp
 have I:Inv (cxOf CX P w K mg base N qual scope f cdv A outer s H E) [] (start N vs) H s1:=inv_start S hr.hd e0 hl r x
 refine wpAny_mono (ht [] s1 (start N vs) H _ I hq) (fun fl s' hs=>?_) fun e s' hs=>hs
 have fin:∀ {σ':St} {H':Hp} {v:V} {u:Value},Inv (cxOf CX P w K mg base N qual scope f cdv A outer s H E) [] σ' H' s'→RelV v u→Q v H'→CE outer P w H s Q u s':=
  fun {σ' H' v u} J rv q=>⟨v,H',J.os,J.bare,J.base,J.hok,rv,q⟩
 cases fl with
 | ret u=>
  obtain ⟨v,σ',H',J,rv,q⟩:=hs
  exact fin J rv q
 | next=>
  obtain ⟨σ',H',J,q⟩:=hs
  exact fin (v:=V.non) (u:=Value.none) J rfl q
 | brk=>
  obtain ⟨_,_,_,q⟩:=hs
  exact False.elim q
 | cont=>
  obtain ⟨_,_,_,q⟩:=hs
  exact False.elim q
end L2

namespace L2
open PySem PySem.Spec PyProof.Rows
section
variable {X:Cx} {x:Str} {p pos:Pos} {e:Expr} {es:List Expr} {t:TA} {id T:String} {r:List V→Hp→VK→Prop}

noncomputable def tCB (r:List V→Hp→VK→Prop) (t:TA):TE:=fun σ H Q=>t σ H fun vs H1=>r vs H1 Q
theorem pe_callB (hc:CallR X (.builtin id) r) (hg:Gl X x) (hm:X.mg x=none) (hv:bootBuiltins x=some (.builtin id)) (ha:PA X (e::es) t) (hn:x≠"__name__" := by decide) (hdb:(x==("__debug__" : Str))=false:=by decide)
  (he:starEach (e::es) X.env=(false,eval e X.env)::starEach es X.env:=by rfl) (hpl:(backTo pos (starEach es X.env)).any (·.1)=false:=by rfl):PE X (.Call (.Name x p) (e::es) [] pos) (tCB r t):=by
 intro pins s σ H Q I h
 refine wpAny_Call_Name_kw (ld_blt I hg hm hv ?_ hn hdb)
 exact PyProof.Rows.callWith_builtin1 (thn (ha pos pins s σ H _ I h) fun us s1 ⟨vs,H1,I1,r1,q1⟩=>hc pins s1 σ H1 vs us Q I1 r1 q1) he hpl
theorem pe_callTy (hc:CallR X (.type T) r) (hg:Gl X x) (hm:X.mg x=none) (hv:bootBuiltins x=some (.type T)) (ha:PA X (e::es) t) (hn:x≠"__name__" := by decide) (hdb:(x==("__debug__" : Str))=false:=by decide)
  (he:starEach (e::es) X.env=(false,eval e X.env)::starEach es X.env:=by rfl) (hpl:(backTo pos (starEach es X.env)).any (·.1)=false:=by rfl):PE X (.Call (.Name x p) (e::es) [] pos) (tCB r t):=by
 intro pins s σ H Q I h
 refine wpAny_Call_Name_kw (ld_blt I hg hm hv ?_ hn hdb)
 exact PyProof.Rows.callWith_type1 (thn (ha pos pins s σ H _ I h) fun us s1 ⟨vs,H1,I1,r1,q1⟩=>hc pins s1 σ H1 vs us Q I1 r1 q1) he hpl
end
end L2

namespace HT
open PySem PyProof.Rows



section
open PySem.SeqAt
open PySem.AutoSeq1 (wpAny_loadPart')
open PySem.MeetsSeq PySem.MeetsSeq2 PySem.MeetsSeq3

end

section
variable {prog:Program} {w:World} {A:Around} {E:Value→Shared→Prop} {s:Shared}



noncomputable def sIx (n d:Nat):Option Int→Nat
 | none=>d
 | some v=>if v<0 then (v+(n:Int)).toNat else min v.toNat n
theorem sIx_none (n d:Nat):sIx n d none=d:=rfl
theorem sIx_nat (n d k:Nat):sIx n d (some (k:Int))=min k n:=by
 show (if (k:Int)<0 then ((k:Int)+(n:Int)).toNat else min (k:Int).toNat n)=min k n
 rw [if_neg (by omega),Int.toNat_natCast]

end
end HT

namespace L2
open PySem PySem.Spec PyProof.Rows

noncomputable abbrev TO:=St→Hp→(Option Int→Hp→Prop)→Prop
noncomputable def PO (X:Cx) (e:Option Expr) (t:TO):Prop:=
 ∀ (pins:List (Addr×Obj)) (s:Shared) (σ:St) (H:Hp) (Q:Option Int→Hp→Prop),Inv X pins σ H s→t σ H Q →
  wpAny (model X.prog X.w) X.A (evalPart e X.env) (fun u s'=>∃ o H',Inv X pins σ H' s'∧IsPart u o∧Q o H') X.xe s
noncomputable def tNoPart:TO:=fun _ H Q=>Q none H
noncomputable def tPart (t:TE):TO:=fun σ H Q=>t σ H fun x H1=>∃ i,x=.int i∧Q (some i) H1


section
variable {X:Cx} {e:Expr} {te:TE} {lo hi:Option Expr} {tl th:TO} {pos p2:Pos}

theorem po_none:PO X none tNoPart:=by
 intro pins s σ H Q I h
 rw [evalPart_none]
 exact wpAny_pure ⟨none,H,I,.none,h⟩
theorem po_some (h:PE X e te):PO X (some e) (tPart te):=by
 intro pins s σ H Q I hw
 rw [evalPart_some]
 refine thn (h pins s σ H _ I hw) fun u s1 ⟨x,H1,I1,r1,q1⟩=>?_
 obtain ⟨i,rfl,q⟩:=q1
 obtain ⟨t,rfl⟩:=r1
 exact ⟨some i,H1,I1,.int i t,q⟩

noncomputable def SlR (X:Cx) (r:V→Option Int→Option Int→Hp→VK→Prop):Prop:=
 ∀ (pins:List (Addr×Obj)) (s:Shared) (σ:St) (H:Hp) (x:V) (v vl vu:Value) (lo hi:Option Int) (sl:Addr) (Q:VK),Inv X pins σ H s→RelV x v→s.heap.IsSliceOf sl vl vu .none→IsPart vl lo→IsPart vu hi→r x lo hi H Q →
  ∃ T id,typeLookup (.type T) "__getitem__"=pure (some (.builtin id))∧s.TypeIs v T∧wpAny (model X.prog X.w) X.A (getItem v (.ref sl)) (EP X pins σ Q) X.xe s
noncomputable def tSl (r:V→Option Int→Option Int→Hp→VK→Prop) (te:TE) (tl th:TO):TE:=fun σ H Q=>te σ H fun x H1=>tl σ H1 fun l H2=>th σ H2 fun u H3=>r x l u H3 Q
theorem pe_slice {r:V→Option Int→Option Int→Hp→VK→Prop} (hr:SlR X r) (he:PE X e te) (hl:PO X lo tl) (hu:PO X hi th):PE X (.Subscript e (.Slice lo hi none p2) pos) (tSl r te tl th):=by
 intro pins s σ H Q I h
 refine Subscript_ (thn (he pins s σ H _ I h) fun v s1 ⟨x,H1,I1,r1,q1⟩=>?_)
 refine wpAny_Slice (thn (hl pins s1 σ H1 _ I1 q1) fun vl s2 ⟨l,H2,I2,pl,q2⟩=>thn (hu pins s2 σ H2 _ I2 q2) fun vu s3 ⟨u,H3,I3,pu,q3⟩=>?_)
 rw [evalPart_none]
 refine wpAny_pure ?_
 have I4:Inv X pins σ H3 { s3 with heap:=s3.heap.push { cls:=.type "slice",data:=.fields #[vl,vu,.none] } }:=I3.kept (t':=s3.toks) fun b ob q=>Heap.get?_push_of_some _ q
 obtain ⟨T,id,hT,ht,hg⟩:=hr pins { s3 with heap:=s3.heap.push { cls:=.type "slice",data:=.fields #[vl,vu,.none] } } σ H3 x v vl vu l u s3.heap.objs.size Q I4 r1 (Heap.IsSliceOf.new ..) pl pu q3
 show wpAny (model X.prog X.w) X.A (subscriptTail e (.Slice lo hi none p2) v (.ref s3.heap.objs.size)) (EP X pins σ Q) X.xe { s3 with heap:=s3.heap.push { cls:=.type "slice",data:=.fields #[vl,vu,.none] } }
 exact tail_any (ops:=[.ref s3.heap.objs.size,v]) ht hT hg (by with_unfolding_all rfl)

noncomputable def cutV (xs:List V) (lo hi:Option Int):List V:=(xs.drop (HT.sIx xs.length 0 lo)).take (HT.sIx xs.length xs.length hi-HT.sIx xs.length 0 lo)
theorem cutV_length (xs:List V) (lo hi:Option Int):(cutV xs lo hi).length≤xs.length:=by
 unfold cutV
 rw [List.length_take,List.length_drop]
 omega

end
end L2

namespace L2
open PySem PySem.Spec PyProof.Rows

noncomputable def ixN (n:Nat) (i:Int):Option Nat:=if 0≤i then (if i<n then some i.toNat else none) else if -(n:Int)≤i then some (i+n).toNat else none
noncomputable def atI {α:Type} (xs:List α) (i:Int):Option α:=(ixN xs.length i).bind fun j=>xs[j]?
theorem ixN_seq {n:Nat} {i:Int} {j:Nat} (h:ixN n i=some j):seqIndex? i n=some j∧j<n∧-(n:Int)≤i∧i<n:=by
 unfold ixN at h
 by_cases h0:0≤i
 ·rw [if_pos h0] at h
  by_cases h1:i<n
  ·rw [if_pos h1] at h
   have e:i.toNat=j:=Option.some.inj h
   exact ⟨by rw [seqIndex_of h0 h1,e],by omega,by omega,h1⟩
  ·rw [if_neg h1] at h; cases h
 ·rw [if_neg h0] at h
  by_cases h1:-(n:Int)≤i
  ·rw [if_pos h1] at h
   have e:(i+n).toNat=j:=Option.some.inj h
   exact ⟨by rw [seqIndex_neg (by omega) h1,e],by omega,h1,by omega⟩
  ·rw [if_neg h1] at h; cases h
theorem atI_get {α:Type} {xs:List α} {i:Int} {v:α} (h:atI xs i=some v):∃ j,seqIndex? i xs.length=some j∧xs[j]?=some v∧j<xs.length∧-(xs.length:Int)≤i∧i<xs.length:=by
 unfold atI at h
 cases e:ixN xs.length i with
 | none=>rw [e] at h; cases h
 | some j=>
  rw [e] at h
  obtain ⟨h1,h2,h3,h4⟩:=ixN_seq e
  exact ⟨j,h1,h,h2,h3,h4⟩
theorem atI_nat {α:Type} {xs:List α} {j:Nat} {v:α} (h:xs[j]?=some v):atI xs (j:Int)=some v:=by
 have hj:j<xs.length:=(List.getElem?_eq_some_iff.mp h).1
 have e:ixN xs.length (j:Int)=some j:=by
  unfold ixN
  rw [if_pos (by omega),if_pos (by omega)]; simp
 unfold atI; rw [e]; exact h

noncomputable def PlainIx (b:Expr):Prop:=∀ o i,subscripted b false o i=operate [o,i] (getItem o i)
noncomputable def IxR (X:Cx) (r:R2):Prop:=
 ∀ (value slice:Expr) (pins:List (Addr×Obj)) (s:Shared) (σ:St) (H:Hp) (x y:V) (v u:Value) (Q:VK),Inv X pins σ H s→RelV x v→RelV y u→r x y H Q →
  subscripted slice false v u=operate [v,u] (getItem v u)→wpAny (model X.prog X.w) X.A (subscriptTail value slice v u) (EP X pins σ Q) X.xe s
noncomputable def MtR (X:Cx) (id:String) (r:V→List V→Hp→VK→Prop):Prop:=
 ∀ (pins:List (Addr×Obj)) (s:Shared) (σ:St) (H:Hp) (x:V) (xs:List V) (v:Value) (us:List Value) (Q:VK),Inv X pins σ H s→RelV x v→Vals xs us→r x xs H Q →
  wpAny (model X.prog X.w) X.A (call (.builtin id) (v::us)) (EP X pins σ Q) X.xe s
section
variable {X:Cx} {a b:Expr} {ta tb:TE} {pos:Pos}
theorem pe_ix {r:R2} (hr:IxR X r) (ha:PE X a ta) (hb:PE X b tb) (hs:PlainIx b):PE X (.Subscript a b pos) (tOp r ta tb):=by
 intro pins s σ H Q I h
 exact Subscript_ (binT ha hb I h fun v u s2 x y H2 I2 rx ry q=>hr a b pins s2 σ H2 x y v u Q I2 rx ry q (hs _ _))

inductive rIxL (K:PySem.W.Frag) (x:V) (y:V) (H:Hp) (Q:VK):Prop
 | mk (p:_) (xs:_) (i:_) (v:_) (h0_:x=.ref p) (h1_:y=.int i) (h2_:SqL K H p xs) (h3_:atI xs i=some v) (h4_:Q v H)
inductive rIxT (K:PySem.W.Frag) (x:V) (y:V) (H:Hp) (Q:VK):Prop
 | mk (p:_) (xs:_) (i:_) (v:_) (h0_:x=.ref p) (h1_:y=.int i) (h2_:SqT K H p xs) (h3_:atI xs i=some v) (h4_:Q v H)
inductive rIxS (x:V) (y:V) (H:Hp) (Q:VK):Prop
 | mk (z:_) (i:_) (c:_) (h0_:x=.str z) (h1_:y=.int i) (h2_:z.length≤sizeLine) (h3_:atI z.cps.toList i=some c) (h4_:Q (.str ⟨#[c]⟩) H)
theorem ix_list:IxR X (rIxL X.K):=by
 intro value slice pins s σ H x y v u Q I rx ry h hs
 obtain ⟨p,xs,i,z,rfl,rfl,hq,he,q⟩:=h
 cases rx
 obtain ⟨t,rfl⟩:=ry
 obtain ⟨its,r,pl,hz⟩:=I.list hq
 obtain ⟨j,h1,h2,h3,h4,h5⟩:=atI_get he
 obtain ⟨w,ew,rw'⟩:=r.get h2
 have hl:=r.length
 have hn:=line63
 have fin:EP X pins σ Q w s:=⟨z,H,I,rw',q⟩
 by_cases h0:0≤i
 ·have hj:i.toNat=j:=by
   rw [seqIndex_of h0 h5] at h1
   exact Option.some.inj h1
  exact item_listR pl.isList h0 (by omega) (by rw [hj]; simpa using ew) fin hs
 ·have hj:(i+(its.toArray.size:Int)).toNat=j:=by
   rw [seqIndex_neg (by omega) h4] at h1
   rw [List.size_toArray,← hl]
   exact Option.some.inj h1
  exact subscriptTail_builtinR (x:=w) pl.isList.typeIs slot_list_getitem.lookup
   (wpAny_getItem_list_neg (Q:=fun r s'=>r=w∧EP X pins σ Q r s') pl.isList (by omega) (by rw [List.size_toArray] <;> omega) (by omega) (by rw [hj]; simpa using ew) ⟨rfl,fin⟩) hs
theorem ix_tup:IxR X (rIxT X.K):=by
 intro value slice pins s σ H x y v u Q I rx ry h hs
 obtain ⟨p,xs,i,z,rfl,rfl,hq,he,q⟩:=h
 cases rx
 obtain ⟨t,rfl⟩:=ry
 obtain ⟨its,r,pl,hz⟩:=I.tuple hq
 obtain ⟨j,h1,h2,h3,h4,h5⟩:=atI_get he
 obtain ⟨w,ew,rw'⟩:=r.get h2
 have hl:=r.length
 have hn:=line63
 have fin:EP X pins σ Q w s:=⟨z,H,I,rw',q⟩
 exact subscriptTail_builtinR (x:=w) pl.typeIs slot_tuple_getitem.lookup
  (getItem_tuple (j:=j) (Q:=fun r s'=>r=w∧EP X pins σ Q r s') pl (by omega) (by omega) (by rw [List.size_toArray,← hl]; exact h1) (by simpa using ew) ⟨rfl,fin⟩) hs
theorem ix_str:IxR X rIxS:=by
 intro value slice pins s σ H x y v u Q I rx ry h hs
 obtain ⟨z,i,c,rfl,rfl,hz,he,q⟩:=h
 obtain ⟨t,rfl⟩:=rx
 obtain ⟨t',rfl⟩:=ry
 obtain ⟨j,h1,h2,h3,h4,h5⟩:=atI_get he
 have hl:z.cps.toList.length=z.length:=by simp [Str.length]
 rw [hl] at h1 h4 h5
 have hn:=line63
 exact tail_any (typeIs_str s z t) slot_str_getitem.lookup (getItem_str (c:=c) (by
  have e1:decide (i < -(2^63:Int))=false:=decide_eq_false (by omega)
  have e2:decide (i≥2^63)=false:=decide_eq_false (by omega)
  rw [e1,e2,Bool.or_false]) (by rw [h1]; simpa using h2) ⟨.str ⟨#[c]⟩,H,I.tok _,⟨_,rfl⟩,q⟩) hs


theorem slice_bounds (lo hi:Option Int) (n:Nat):(sliceBounds lo hi none n).1=((HT.sIx n 0 lo:Nat):Int)∧(sliceBounds lo hi none n).2.1=((HT.sIx n n hi:Nat):Int)∧(sliceBounds lo hi none n).2.2=1:=by
 refine ⟨?_,?_,rfl⟩
 ·cases lo with
  | none=>simp [sliceBounds,HT.sIx]
  | some i=>
   simp only [sliceBounds,HT.sIx,Option.getD_none,show (1:Int)>0 by decide,if_true]
   by_cases h:i<0
   ·simp only [h,if_true] <;> omega
   ·simp only [h,if_false] <;> omega
 ·cases hi with
  | none=>simp [sliceBounds,HT.sIx]
  | some i=>
   simp only [sliceBounds,HT.sIx,Option.getD_none,show (1:Int)>0 by decide,if_true]
   by_cases h:i<0
   ·simp only [h,if_true] <;> omega
   ·simp only [h,if_false] <;> omega
theorem slicePick_cut (its:List Value) (lo hi:Option Int):slicePick its.toArray lo hi none=((its.drop (HT.sIx its.length 0 lo)).take (HT.sIx its.length its.length hi-HT.sIx its.length 0 lo)).toArray:=by
 obtain ⟨h1,h2,h3⟩:=slice_bounds lo hi its.toArray.size
 unfold slicePick
 rw [h1,h2,h3]
 simp only [sliceRange_one,pick_run,List.size_toArray] <;> rfl
inductive rSlL (K:PySem.W.Frag) (x:V) (lo hi:Option Int) (H:Hp) (Q:VK):Prop
 | mk (a:Addr) (xs:List V) (h1:x=.ref a) (h2:SqL K H a xs) (q:∀ p,H p=none→Q (.ref p) (upd H p (.lst (cutV xs lo hi))))
theorem sl_list:SlR X (rSlL X.K):=by
 intro pins s σ H x v vl vu lo hi sl Q I rx hs pl pu h
 obtain ⟨a,xs,rfl,hx,q⟩:=h
 cases rx
 obtain ⟨its,r,ht,hz⟩:=I.list hx
 have hlen:=r.length
 refine ⟨"list",_,slot_list_getitem.lookup,ht.isList.typeIs,?_⟩
 refine wpAny_getItem_list_slice ht.isList hs pl pu .none (by simp) ?_ (by rw [List.size_toArray] <;> omega)
 rw [slicePick_cut,← hlen]
 refine ⟨.ref s.heap.objs.size,_,I.laid (t':=s.toks) (o:=.lst (cutV xs lo hi)) (fun b ob q=>Heap.get?_push_of_some _ q) (Nat.le_refl _) ?_,rfl,q _ (I.hok.fresh (Nat.le_refl _))⟩
 exact ⟨Nat.le_trans (cutV_length xs lo hi) hz,_,0,(r.drop (HT.sIx xs.length 0 lo)).take (HT.sIx xs.length xs.length hi-HT.sIx xs.length 0 lo),Heap.get?_push_size _ rfl⟩

noncomputable def flatV:V→Bool
 | .non=>true
 | .bl _=>true
 | .int _=>true
 | .str _=>true
 | _=>false
noncomputable def eqV:V→V→Bool
 | .non,.non=>true
 | .bl a,.bl b=>a==b
 | .bl a,.int b=>(if a then 1 else 0)==b
 | .int a,.bl b=>a==(if b then 1 else 0)
 | .int a,.int b=>a==b
 | .str a,.str b=>a==b
 | _,_=>false
theorem eqAt_V {A:Around} {s:Shared} {y x:V} {u v:Value} (ry:RelV y u) (rx:RelV x v) (fy:flatV y=true) (fx:flatV x=true):SeqAt.EqAt A s u v (eqV y x):=by
 cases y with
 | non=>
  cases ry
  cases x with
  | non=>cases rx; exact SeqAt.EqAt.same _
  | bl b=>cases rx; exact SeqAt.EqAt.none_bool b
  | int b=>obtain ⟨t,rfl⟩:=rx; exact SeqAt.EqAt.none_int b t
  | str b=>obtain ⟨t,rfl⟩:=rx; exact SeqAt.EqAt.none_str b t
  | _=>exact absurd (show false=true from fx) Bool.false_ne_true
 | bl a=>
  cases ry
  cases x with
  | non=>cases rx; exact SeqAt.EqAt.bool_none a
  | bl b=>cases rx; exact SeqAt.EqAt.bool_bool a b
  | int b=>obtain ⟨t,rfl⟩:=rx; exact SeqAt.EqAt.bool_int a b t
  | str b=>obtain ⟨t,rfl⟩:=rx; exact SeqAt.EqAt.bool_str a b t
  | _=>exact absurd (show false=true from fx) Bool.false_ne_true
 | int a=>
  obtain ⟨t',rfl⟩:=ry
  cases x with
  | non=>cases rx; exact SeqAt.EqAt.int_none a t'
  | bl b=>cases rx; exact SeqAt.EqAt.int_bool a t' b
  | int b=>obtain ⟨t,rfl⟩:=rx; exact SeqAt.EqAt.int_int a t' b t
  | str b=>obtain ⟨t,rfl⟩:=rx; exact SeqAt.EqAt.int_str a t' b t
  | _=>exact absurd (show false=true from fx) Bool.false_ne_true
 | str a=>
  obtain ⟨t',rfl⟩:=ry
  cases x with
  | non=>cases rx; exact SeqAt.EqAt.str_none a t'
  | bl b=>cases rx; exact SeqAt.EqAt.str_bool a t' b
  | int b=>obtain ⟨t,rfl⟩:=rx; exact SeqAt.EqAt.str_int a t' b t
  | str b=>obtain ⟨t,rfl⟩:=rx; exact SeqAt.EqAt.str_str a t' b t
  | _=>exact absurd (show false=true from fx) Bool.false_ne_true
 | _=>exact absurd (show false=true from fy) Bool.false_ne_true
noncomputable def eqU (x:V) (u:Value):Bool:=match u with
 | .none=>eqV .non x
 | .bool b=>eqV (.bl b) x
 | .int i _=>eqV (.int i) x
 | .str z _=>eqV (.str z) x
 | _=>false
theorem eqU_of {x y:V} {u:Value} (r:RelV y u) (f:flatV y=true):eqU x u=eqV y x:=by
 cases y with
 | non=>cases r; rfl
 | bl b=>cases r; rfl
 | int i=>obtain ⟨t,rfl⟩:=r; rfl
 | str z=>obtain ⟨t,rfl⟩:=r; rfl
 | _=>exact absurd (show false=true from f) Bool.false_ne_true
theorem any_eqU {x:V}:∀ {xs:List V} {us:List Value},Vals xs us→xs.all flatV=true→us.any (eqU x)=xs.any fun y=>eqV y x
 | _,_,.nil,_=>rfl
 | y::xs,u::us,.cons r t,f=>by
  rw [List.all_cons,Bool.and_eq_true] at f
  rw [List.any_cons,List.any_cons,eqU_of r f.1,any_eqU t f.2]
theorem mem_eqAt {A:Around} {s:Shared} {x:V} {v:Value} (rx:RelV x v) (fx:flatV x=true):∀ {xs:List V} {us:List Value},Vals xs us→xs.all flatV=true→∀ u∈us,SeqAt.EqAt A s u v (eqU x u)
 | _,_,.nil,_=>fun u hu=>by cases hu
 | y::xs,u::us,.cons r t,f=>fun u' hu=>by
  rw [List.all_cons,Bool.and_eq_true] at f
  rcases List.mem_cons.mp hu with rfl | hu
  ·rw [eqU_of r f.1]; exact eqAt_V r rx f.1 fx
  ·exact mem_eqAt rx fx t f.2 u' hu
noncomputable def inV (x:V) (xs:List V):Bool:=xs.any fun y=>eqV y x
inductive rIn (K:PySem.W.Frag) (neg:Bool) (x:V) (y:V) (H:Hp) (Q:VK):Prop
 | mk (p:_) (xs:_) (h0_:y=.ref p) (h1_:(SqL K H p xs∨SqT K H p xs)) (h2_:flatV x=true) (h3_:xs.all flatV=true) (h4_:Q (.bl (if neg then !inV x xs else inV x xs)) H)
theorem op_in_seq:OpR X (compareOp .In) (rIn X.K false):=by
 intro pins s σ H x y v u Q I rx ry h
 obtain ⟨p,xs,rfl,hq,fx,fs,q⟩:=h
 cases ry
 rcases hq with hq | hq
 ·obtain ⟨its,r,pl,hz⟩:=I.list hq
  refine SeqAt.in_listAt (eqU x) pl.isList (fun w hw=>mem_eqAt rx fx r fs w (by simpa using hw)) ⟨.bl _,H,I,rfl,?_⟩
  rw [show its.toArray.any (eqU x)=its.any (eqU x) by simp,any_eqU r fs]
  exact q
 ·obtain ⟨its,r,pl,hz⟩:=I.tuple hq
  refine SeqAt.in_tupleAt (eqU x) pl (fun w hw=>mem_eqAt rx fx r fs w (by simpa using hw)) ⟨.bl _,H,I,rfl,?_⟩
  rw [show its.toArray.any (eqU x)=its.any (eqU x) by simp,any_eqU r fs]
  exact q

inductive LenSeq (K:PySem.W.Frag) (xs:List V) (H:Hp) (Q:VK):Prop
 | mk (p:_) (ys:_) (h0_:xs=[.ref p]) (h1_:(SqL K H p ys∨SqT K H p ys)) (h2_:Q (.int ys.length) H)
theorem call_len_seq:CallR X (.builtin "len") (LenSeq X.K):=by
 intro pins s σ H xs us Q I r h
 obtain ⟨p,ys,rfl,hq,q⟩:=h
 obtain ⟨u,rfl,rx⟩:=vals1 r
 cases rx
 have hn:=line63
 rcases hq with hq | hq
 ·obtain ⟨its,r',pl,hz⟩:=I.list hq
  have hlen:=r'.length
  exact Calls.call_len_list pl.isList (by simp only [List.size_toArray] <;> omega) ⟨.int ys.length,H,I.tok _,⟨s.toks+1,by rw [List.size_toArray,hlen]⟩,q⟩
 ·obtain ⟨its,r',pl,hz⟩:=I.tuple hq
  have hlen:=r'.length
  exact len_tuple pl (by simp only [List.size_toArray] <;> omega) ⟨.int ys.length,H,I.tok _,⟨s.toks+1,by rw [List.size_toArray,hlen]⟩,q⟩
theorem call_len_str:CallR X (.builtin "len") (fun xs H Q=>∃ z,xs=[.str z]∧z.length≤sizeLine∧Q (.int z.length) H):=by
 intro pins s σ H xs us Q I r h
 obtain ⟨z,rfl,hz,q⟩:=h
 obtain ⟨u,rfl,t,rfl⟩:=vals1 r
 have hn:=line63
 exact len_str (by omega) ⟨.int z.length,H,I.tok _,⟨_,rfl⟩,q⟩
inductive ListOf (K:PySem.W.Frag) (xs:List V) (H:Hp) (Q:VK):Prop
 | mk (p:_) (ys:_) (h0_:xs=[.ref p]) (h1_:(SqL K H p ys∨SqT K H p ys)) (h2_:∀ l,H l=none→Q (.ref l) (upd H l (.lst ys)))
theorem call_list_of:CallR X (.type "list") (ListOf X.K):=by
 intro pins s σ H xs us Q I r h
 obtain ⟨p,ys,rfl,hq,q⟩:=h
 obtain ⟨u,rfl,rx⟩:=vals1 r
 cases rx
 have fin:∀ (its:List Value),Vals ys its→ys.length≤sizeLine→∀ (h':Heap) (c':Nat),(∀ b o',s.heap.get? b=some o'→h'.get? b=some o') →
   h'.get? s.heap.objs.size=some { cls:=.type "list",dict:=none,data:=.seq its.toArray c',slots:=#[] }→EP X pins σ Q (.ref s.heap.objs.size) { s with heap:=h' }:=fun its r' hz h' c' kp e=>
  ⟨.ref s.heap.objs.size,_,I.laid (t':=s.toks) kp (Nat.le_refl _) (show ObjOk X.prog X.w _ h' _ (.lst ys) from ⟨hz,its,c',r',e⟩),rfl,q _ (I.hok.fresh (Nat.le_refl _))⟩
 rcases hq with hq | hq
 ·obtain ⟨its,r',pl,hz⟩:=I.list hq
  have hlen:=r'.length
  obtain ⟨o,ho,hc,n,hd⟩:=pl.isList
  exact call_list_seq p (.inl rfl) ho hc hd (fun h' c' kp e=>fin its r' hz h' c' kp e) (by simp only [List.size_toArray] <;> omega)
 ·obtain ⟨its,r',pl,hz⟩:=I.tuple hq
  have hlen:=r'.length
  obtain ⟨o,ho,hc,n,hd⟩:=pl
  exact call_list_seq p (.inr rfl) ho hc hd (fun h' c' kp e=>fin its r' hz h' c' kp e) (by simp only [List.size_toArray] <;> omega)

noncomputable def tyV (K:PySem.W.Frag) (T:String) (x:V) (H:Hp):Prop:=match x with
 | .str _=>T="str"
 | .int _=>T="int"
 | .ref p=>(T="list" ∧ ∃ xs,SqL K H p xs)∨(T="tuple" ∧ ∃ o,K.lookup p=some o∧o.cls=.type "tuple" ∧ o.dict=none) ∨
   (T="dict" ∧ ((∃ kvs,H p=some (.dK kvs))∨∃ kvs,H p=some (.dT kvs)))∨(T="set" ∧ ∃ S n,H p=some (.set S n))
 | _=>False
theorem tyV_is {pins:List (Addr×Obj)} {σ:St} {H:Hp} {s:Shared} {T:String} {x:V} {v:Value} (I:Inv X pins σ H s) (r:RelV x v) (ty:tyV X.K T x H) :
  s.TypeIs v T∧∀ a,v=.ref a→∃ ob,s.heap.get? a=some ob∧ob.dict=none:=by
 cases x with
 | str z=>
  obtain ⟨t,rfl⟩:=r
  cases (show T="str" from ty)
  exact ⟨typeIs_str s z t,fun _ e=>nomatch e⟩
 | int i=>
  obtain ⟨t,rfl⟩:=r
  cases (show T="int" from ty)
  exact ⟨typeIs_int s i t,fun _ e=>nomatch e⟩
 | ref p=>
  cases r
  rcases ty with ⟨rfl,xs,hq⟩ | ⟨rfl,o,hk,hc,hd⟩ | ⟨rfl,hk⟩ | ⟨rfl,S,n,hk⟩
  ·obtain ⟨its,_,pl,_⟩:=I.list hq
   refine ⟨pl.isList.typeIs,fun a e=>?_⟩
   cases e
   obtain ⟨o,n,e,c,hd,_⟩:=pl
   exact ⟨o,e,hd⟩
  ·refine ⟨⟨o,I.kIn p o hk,hc⟩,fun a e=>?_⟩
   cases e
   exact ⟨o,I.kIn _ o hk,hd⟩
  ·have z:∃ o,s.heap.get? p=some o∧o.ExactDict:=by
    rcases hk with ⟨kvs,hk⟩ | ⟨kvs,hk⟩
    ·obtain ⟨_,_,_,_,o,_,_,e,ex,_⟩:=I.hok p _ hk
     exact ⟨o,e,ex⟩
    ·obtain ⟨_,_,_,_,o,_,_,e,ex,_⟩:=I.hok p _ hk
     exact ⟨o,e,ex⟩
   obtain ⟨o,e,ex⟩:=z
   refine ⟨⟨o,e,ex.1⟩,fun a e2=>?_⟩
   cases e2
   exact ⟨o,e,ex.2.1⟩
  ·obtain ⟨o,_,_,_,e,ex,_⟩:=I.hok p _ hk
   refine ⟨⟨o,e,ex.1⟩,fun a e2=>?_⟩
   cases e2
   exact ⟨o,e,ex.2.1⟩
 | _=>exact False.elim ty
noncomputable def tBM0 (K:PySem.W.Frag) (T:String) (r:V→List V→Hp→VK→Prop) (to:TE):TE:=fun σ H Q=>to σ H fun x H1=>tyV K T x H1∧r x [] H1 Q
noncomputable def tBM (K:PySem.W.Frag) (T:String) (r:V→List V→Hp→VK→Prop) (to:TE) (t:TA):TE:=fun σ H Q=>to σ H fun x H1=>tyV K T x H1∧t σ H1 fun xs H2=>r x xs H2 Q
variable {o e:Expr} {es:List Expr} {to:TE} {t:TA} {name:Str} {apos cpos:Pos} {T id:String} {r:V→List V→Hp→VK→Prop}
theorem pe_bm0 (pa:PlainAttrs T) (slot:Slot T name id) (hty:typeOf (.builtin id)=pure (.type "method_descriptor")) (hm:MtR X id r) (ho:PE X o to)
  (hbase:attributeBase o name X.env (eval o X.env)=eval o X.env:=by rfl) (hline:(apos.endLine==cpos.line)=true:=by rfl):PE X (.Call (.Attribute o name apos) [] [] cpos) (tBM0 X.K T r to):=by
 intro pins s σ H Q I h
 refine wpAny_Call_method0_late hbase hline (thn (ho pins s σ H _ I h) fun v s1 ⟨x,H1,I1,r1,ty,q1⟩=>?_)
 obtain ⟨h1,h2⟩:=tyV_is I1 r1 ty
 exact ⟨T,id,pa,slot,hty,h1,h2,Calls.callWith_builtin rfl (PySem.evalArgs_none (hm pins s1 σ H1 x [] v [] Q I1 r1 .nil q1))⟩
theorem pe_bm (pa:PlainAttrs T) (slot:Slot T name id) (hty:typeOf (.builtin id)=pure (.type "method_descriptor")) (hm:MtR X id r) (ho:PE X o to) (ha:PA X (e::es) t)
  (hbase:attributeBase o name X.env (eval o X.env)=eval o X.env:=by rfl)
  (hfew:((backTo cpos (starEach (e::es) X.env)).all (fun x=>!x.1)&&(backToKw cpos (keywordEach [] X.env)).all (fun x=>x.1.isSome)
   && decide ((e::es).length+([]:List Keyword).length+(if ([]:List Keyword).isEmpty then 0 else 1)<30))=true:=by rfl)
  (hline:(apos.endLine==cpos.line)=true:=by rfl) (hs:starEach (e::es) X.env=(false,eval e X.env)::starEach es X.env:=by rfl) (hplain:(backTo cpos (starEach es X.env)).any (·.1)=false:=by rfl) :
  PE X (.Call (.Attribute o name apos) (e::es) [] cpos) (tBM X.K T r to t):=by
 intro pins s σ H Q I h
 refine wpAny_Call_method_late hbase hfew hline rfl (thn (ho pins s σ H _ I h) fun v s1 ⟨x,H1,I1,r1,ty,q1⟩=>?_)
 obtain ⟨h1,h2⟩:=tyV_is I1 r1 ty
 refine ⟨T,id,pa,slot,hty,h1,h2,?_⟩
 have hA:=ha cpos pins s1 σ H1 _ I1 q1
 rw [hs] at hA ⊢
 refine Calls.callWith_builtin (by show (false||(backTo cpos (starEach es X.env)).any (·.1))=false; rw [hplain] <;> rfl) (Calls.evalArgs_plain ?_)
 exact thn hA fun us s2 ⟨vs,H2,I2,r2,q2⟩=>hm pins s2 σ H2 x vs v us Q I2 r1 r2 q2
/- xs.append(e),list.index on a module's tuple .. are MtR facts of 06m -/
end
end L2

namespace L2
open PySem PySem.Spec PyProof.Rows

noncomputable def MtM (X:Cx) (id:String) (r:V→List V→Hp→VK→Prop):Prop:=
 ∀ (pins:List (Addr×Obj)) (s:Shared) (σ:St) (H:Hp) (x:V) (xs:List V) (v:Value) (us:List Value) (Q:VK),Inv X pins σ H s→RelV x v→Vals xs us→r x xs H Q →
  wpAny (model X.prog X.w) X.A (call (.builtin id) (v::us)) (EP X pins σ Q) X.xe s

theorem Vals.one:∀ {x:V} {us:List Value},Vals [x] us→∃ u,us=[u]∧RelV x u
 | _,_,.cons r .nil=>⟨_,rfl,r⟩
theorem Vals.zero:∀ {us:List Value},Vals [] us→us=[]
 | _,.nil=>rfl
theorem Vals.reverse {xs:List V} {us:List Value} (h:Vals xs us):Vals xs.reverse us.reverse:=by
 induction h with
 | nil=>exact .nil
 | cons r t ih=>rw [List.reverse_cons,List.reverse_cons]; exact Vals.append ih (.cons r .nil)
theorem Vals.rep {xs:List V} {us:List Value} (h:Vals xs us):∀ k:Nat,Vals (List.replicate k xs).flatten (List.replicate k us).flatten
 | 0=>.nil
 | k+1=>by
  rw [List.replicate_succ,List.replicate_succ,List.flatten_cons,List.flatten_cons]
  exact Vals.append h (Vals.rep h k)
theorem foldl_rep (its:List Value):∀ (k:Nat) (acc:List Value),
  List.foldl (fun x1 x2=>x1++x2) acc.toArray (List.replicate k its.toArray)=(acc++(List.replicate k its).flatten).toArray
 | 0,acc=>by simp
 | k+1,acc=>by
  have e:acc.toArray++its.toArray=(acc++its).toArray:=by simp
  have e2:(acc++its)++(List.replicate k its).flatten=acc++(List.replicate (k+1) its).flatten:=by
   rw [List.replicate_succ,List.flatten_cons,List.append_assoc]
  rw [← e2,← foldl_rep its k (acc++its),← e,List.replicate_succ,List.foldl_cons]

section
variable {X:Cx} {pins:List (Addr×Obj)} {σ:St} {H:Hp} {s:Shared} {l b:Addr} {xs ys zs:List V}

theorem Inv.lset {its its':List Value} {n:Nat} {f:Array Value→Array Value} {t':Nat} (I:Inv X pins σ H s) (hH:H l=some (.lst xs))
  (e:s.heap.get? l=some { cls:=.type "list",data:=.seq its.toArray n }) (hf:f its.toArray=its'.toArray) (hv:Vals ys its') (hz:ys.length≤sizeLine) :
  Inv X pins σ (upd H l (.lst ys)) { s with heap:=s.heap.update l (Obj.mapSeq f),toks:=t' }:=by
 have q:=PySem.IsL.update e f
 rw [hf] at q
 refine I.write (x:=l) (e:=l) (by rw [hH]; exact trivial) (.inl rfl) (fun b' u hb hu=>(Heap.get?_update_other s.heap (Obj.mapSeq f) (Ne.symm hb)).trans hu) ⟨_,q⟩ ?_
 exact ⟨hz,its',_,hv,q⟩
theorem Inv.lnew {its:List Value} {t':Nat} (I:Inv X pins σ H s) (hv:Vals ys its) (hz:ys.length≤sizeLine) :
  Inv X pins σ (upd H s.heap.objs.size (.lst ys)) { s with heap:=s.heap.push { cls:=.type "list",data:=.seq its.toArray },toks:=t' }:=
 I.laid (fun _ _ q=>Heap.get?_push_of_some _ q) (Nat.le_refl _) ⟨hz,its,0,hv,Heap.get?_push_size _ rfl⟩
theorem Inv.fresh (I:Inv X pins σ H s):H s.heap.objs.size=none:=I.hok.fresh (Nat.le_refl _)
theorem Inv.lstM (I:Inv X pins σ H s) (hH:H l=some (.lst xs)):xs.length≤sizeLine∧∃ (its:List Value) (n:Nat),Vals xs its∧xs.length=its.length∧s.heap.get? l=some { cls:=.type "list",data:=.seq its.toArray n }:=by
 obtain ⟨z,its,n,r,e⟩:=I.hok l _ hH
 exact ⟨z,its,n,r,r.length,e⟩

theorem notLongL {n:Nat} (h:n≤sizeLine):Builtin.List.listTooLong n=false:=by
 unfold Builtin.List.listTooLong
 exact decide_eq_false (by omega)
end

section
variable {X:Cx}

noncomputable def rAppend:V→List V→Hp→VK→Prop:=fun x vs H Q=>∃ l xs y,x=.ref l∧vs=[y]∧H l=some (.lst xs)∧xs.length<sizeLine∧Q .non (upd H l (.lst (xs++[y])))
theorem mt_append:MtM X "list.append" rAppend:=by
 intro pins s σ H x vs v us Q I rx rv h
 obtain ⟨l,xs,y,rfl,rfl,hH,hz,q⟩:=h
 cases rx
 obtain ⟨u,rfl,ru⟩:=rv.one
 obtain ⟨z,its,n,r,hl,e⟩:=I.lstM hH
 refine call_meets F.slot_list_append ⟨_,e,rfl⟩ F.entry_list_append (F.args_list_append_2 _ _) (PySem.list_append l its.toArray n u (by rw [List.size_toArray]; omega)) ⟨e,?_⟩
 refine ⟨.non,_,I.lset (its':=its++[u]) hH e (by simp) (r.append (.cons ru .nil)) ?_,rfl,q⟩
 rw [List.length_append,List.length_singleton]
 omega

noncomputable def rExtend:V→List V→Hp→VK→Prop:=fun x vs H Q=>∃ l b xs zs,x=.ref l∧vs=[.ref b]∧H l=some (.lst xs)∧H b=some (.lst zs)∧xs.length+zs.length≤sizeLine∧Q .non (upd H l (.lst (xs++zs)))
theorem mt_extend:MtM X "list.extend" rExtend:=by
 intro pins s σ H x vs v us Q I rx rv h
 obtain ⟨l,b,xs,zs,rfl,rfl,hH,hB,hz,q⟩:=h
 cases rx
 obtain ⟨u,rfl,ru⟩:=rv.one
 cases ru
 obtain ⟨z,its,n,r,hl,e⟩:=I.lstM hH
 obtain ⟨z2,its2,n2,r2,hl2,e2⟩:=I.lstM hB
 have hsz:its.toArray.size+its2.toArray.size≤sizeLine:=by rw [List.size_toArray,List.size_toArray]; omega
 have hlong:¬ (!its.toArray.isEmpty&&Builtin.List.listTooLong (its.toArray.size+its2.toArray.size))=true:=by
  rw [notLongL hsz,Bool.and_false]
  exact Bool.false_ne_true
 refine call_meets F.slot_list_extend ⟨_,e,rfl⟩ F.entry_list_extend (F.args_list_extend_2 _ _)
  (AutoSeq1.list_extend_list_list_0 l its.toArray n b its2.toArray n2 hlong (by rw [List.size_toArray]; omega) (by omega)) ⟨e,e2,?_⟩
 refine ⟨.non,_,I.lset (its':=its++its2) hH e (by simp) (r.append r2) ?_,rfl,q⟩
 rw [List.length_append]
 omega



noncomputable def rReverse:V→List V→Hp→VK→Prop:=fun x vs H Q=>∃ l xs,x=.ref l∧vs=[]∧H l=some (.lst xs)∧Q .non (upd H l (.lst xs.reverse))
theorem mt_reverse:MtM X "list.reverse" rReverse:=by
 intro pins s σ H x vs v us Q I rx rv h
 obtain ⟨l,xs,rfl,rfl,hH,q⟩:=h
 cases rx
 have hus:=rv.zero
 subst hus
 obtain ⟨z,its,n,r,hl,e⟩:=I.lstM hH
 refine call_meets F.slot_list_reverse ⟨_,e,rfl⟩ F.entry_list_reverse (F.args_list_reverse_1 _) (AutoSeq1.list_reverse_list_0 l its.toArray n (by rw [List.size_toArray]; omega)) ⟨e,?_⟩
 refine ⟨.non,_,I.lset (its':=its.reverse) hH e (by simp) r.reverse ?_,rfl,q⟩
 rw [List.length_reverse]
 omega

noncomputable def rClear:V→List V→Hp→VK→Prop:=fun x vs H Q=>∃ l xs,x=.ref l∧vs=[]∧H l=some (.lst xs)∧Q .non (upd H l (.lst []))
theorem mt_clear:MtM X "list.clear" rClear:=by
 intro pins s σ H x vs v us Q I rx rv h
 obtain ⟨l,xs,rfl,rfl,hH,q⟩:=h
 cases rx
 have hus:=rv.zero
 subst hus
 obtain ⟨z,its,n,r,hl,e⟩:=I.lstM hH
 refine call_meets F.slot_list_clear ⟨_,e,rfl⟩ F.entry_list_clear (F.args_list_clear_1 _) (AutoSeq1.list_clear_list_0 l its.toArray n (by rw [List.size_toArray]; omega)) ⟨e,?_⟩
 exact ⟨.non,_,I.lset (its':=[]) (ys:=[]) hH e rfl .nil (Nat.zero_le _),rfl,q⟩

inductive rCat (x:V) (y:V) (H:Hp) (Q:VK):Prop
 | mk (l:_) (b:_) (xs:_) (zs:_) (h0_:x=.ref l) (h1_:y=.ref b) (h2_:H l=some (.lst xs)) (h3_:H b=some (.lst zs)) (h4_:xs.length+zs.length≤sizeLine) (h5_:∀ p,H p=none→Q (.ref p) (upd H p (.lst (xs++zs))))
theorem op_cat:OpR X (binaryOp .Add) rCat:=by
 intro pins s σ H x y v u Q I rx ry h
 obtain ⟨l,b,xs,zs,rfl,rfl,hH,hB,hz,q⟩:=h
 cases rx
 cases ry
 obtain ⟨z,its,n,r,hl,e⟩:=I.lstM hH
 obtain ⟨z2,its2,n2,r2,hl2,e2⟩:=I.lstM hB
 refine PySem.P.add_list e e2 ?_ (by rw [List.size_toArray,List.size_toArray]; omega)
 have ea:its.toArray++its2.toArray=(its++its2).toArray:=by simp
 rw [ea]
 exact ⟨.ref _,_,I.lnew (t':=s.toks) (r.append r2) (by rw [List.length_append]; omega),rfl,q _ I.fresh⟩
inductive rRep (x:V) (y:V) (H:Hp) (Q:VK):Prop
 | mk (l:_) (k:_) (xs:_) (h0_:x=.ref l) (h1_:y=.int k) (h2_:H l=some (.lst xs)) (h3_:-(2^63)≤k) (h4_:k<2^63) (h5_:xs.length*k.toNat≤sizeLine) (h6_:∀ p,H p=none→Q (.ref p) (upd H p (.lst (List.replicate k.toNat xs).flatten)))
theorem len_rep {α:Type} (xs:List α) (k:Nat):(List.replicate k xs).flatten.length=k*xs.length:=by
 induction k with
 | zero=>simp
 | succ k ih=>rw [List.replicate_succ,List.flatten_cons,List.length_append,ih,Nat.succ_mul,Nat.add_comm]
theorem op_rep:OpR X (binaryOp .Mult) rRep:=by
 intro pins s σ H x y v u Q I rx ry h
 obtain ⟨l,k,xs,rfl,rfl,hH,h1,h2,hz,q⟩:=h
 cases rx
 obtain ⟨t,rfl⟩:=ry
 obtain ⟨z,its,n,r,hl,e⟩:=I.lstM hH
 have hlen:its.toArray.size*k.toNat≤sizeLine:=by rw [List.size_toArray,← hl]; exact hz
 have hcap:¬ its.toArray.size*k.toNat>(2^63-1)/8:=by
  have:(sizeLine:Nat)≤(2^63-1)/8:=by decide
  omega
 have hfit:¬ (!Builtin.List.listFitsIndex k)=true:=by
  rw [fitsIndex_both h1 h2]
  exact Bool.false_ne_true
 have hlong:¬ Builtin.List.listTooLong (its.toArray.size*k.toNat)=true:=by
  rw [notLongL hlen]
  exact Bool.false_ne_true
 have hnew:List.foldl (fun x1 x2=>x1++x2) #[] (List.replicate (if its.toArray.isEmpty=true then 0 else k.toNat) its.toArray)=(List.replicate k.toNat its).flatten.toArray:=by
  have f0:∀ m:Nat,List.foldl (fun x1 x2=>x1++x2) #[] (List.replicate m its.toArray)=(List.replicate m its).flatten.toArray:=fun m=>by
   have:=foldl_rep its m []
   rw [List.nil_append] at this
   exact this
  rw [f0]
  cases its with
  | nil=>simp
  | cons a r'=>rw [if_neg (by simp)]
 refine wpAny_binaryOp_repeat_ref (T:="list") (U:="int") (by decide) ⟨_,e,rfl⟩ (fun s'=>typeIs_int s' k t) noFill_list_mul F.fills_int_mul F.slot_int_rmul repeat_list F.slot_int_index.lookup
  (call_meets F.slot_int_rmul (typeIs_int s k t) F.entry_int_rmul (F.args_int_rmul_2 _ _) (int___rmul___int_list k t l its.toArray n)
   ⟨e,rfl,⟨_,e,rfl⟩,call_meets F.slot_list_mul ⟨_,e,rfl⟩ F.entry_list_mul (F.args_list_mul_2 _ _) (AutoListH.list___mul___list_int_3 l its.toArray n k t hfit hcap hlong) ⟨e,?_⟩⟩)
 rw [hnew]
 exact ⟨.ref _,_,I.lnew (t':=s.toks) (r.rep k.toNat) (by rw [len_rep,Nat.mul_comm]; exact hz),rfl,q _ I.fresh⟩

end

section
variable {prog:Program} {w:World} {A:Around} {E:Value→Shared→Prop} {s:Shared}
set_option maxRecDepth 100000 in
end

section
variable {X:Cx}
end
end L2

namespace L2
open PySem PySem.Spec PyProof.Rows

section
variable {κ:Type} [DecidableEq κ]
noncomputable def valV (kvs:List (κ×V)) (k:κ):Option V:=(kvs.find? fun kv=>decide (kv.1=k)).map (·.2)
noncomputable def putK (kvs:List (κ×V)) (k:κ) (v:V):List (κ×V):=
 if (kvs.any fun kv=>decide (kv.1=k))=true then kvs.map (fun kv=>if kv.1=k then (kv.1,v) else kv) else kvs++[(k,v)]

theorem valV_pos {p:κ×V} {r:List (κ×V)} {k:κ} (e:p.1=k):valV (p::r) k=some p.2:=by simp [valV,List.find?_cons,e]
theorem valV_neg {p:κ×V} {r:List (κ×V)} {k:κ} (e:¬ p.1=k):valV (p::r) k=valV r k:=by simp [valV,List.find?_cons,e]
theorem valV_any (k:κ):∀ kvs:List (κ×V),(kvs.any fun kv=>decide (kv.1=k))=(valV kvs k).isSome
 | []=>rfl
 | p::r=>by
  rw [List.any_cons]
  by_cases e:p.1=k
  ·simp only [valV_pos e,decide_eq_true e,Bool.true_or,Option.isSome_some]
  ·rw [valV_neg e,decide_eq_false e,Bool.false_or]; exact valV_any k r
theorem valV_map (k j:κ) (y:V):∀ kvs:List (κ×V),valV (kvs.map fun kv=>if kv.1=k then (kv.1,y) else kv) j=(valV kvs j).map fun x=>if j=k then y else x
 | []=>rfl
 | p::r=>by
  have ih:=valV_map k j y r
  rw [List.map_cons]
  by_cases h:p.1=k
  ·rw [if_pos h]
   by_cases e:p.1=j
   ·rw [valV_pos (p:=(p.1,y)) e,valV_pos e,Option.map_some,if_pos (e.symm.trans h)]
   ·rw [valV_neg (p:=(p.1,y)) e,valV_neg e,ih]
  ·rw [if_neg h]
   by_cases e:p.1=j
   ·rw [valV_pos (p:=p) e,valV_pos e,Option.map_some,if_neg (fun z=>h (e.trans z))]
   ·rw [valV_neg (p:=p) e,valV_neg e,ih]
theorem valV_snoc (k j:κ) (y:V):∀ kvs:List (κ×V),valV kvs k=none→valV (kvs++[(k,y)]) j=if j=k then some y else valV kvs j
 | [],_=>by
  by_cases e:k=j
  ·rw [if_pos e.symm]; exact valV_pos (p:=(k,y)) e
  ·rw [if_neg (fun z=>e z.symm)]; exact valV_neg (p:=(k,y)) e
 | p::r,hn=>by
  rw [List.cons_append]
  have hk:¬ p.1=k:=fun z=>by rw [valV_pos z] at hn; cases hn
  rw [valV_neg hk] at hn
  have ih:=valV_snoc k j y r hn
  by_cases e:p.1=j
  ·rw [valV_pos e,valV_pos e,if_neg (fun z=>hk (e.trans z))]
  ·rw [valV_neg e,valV_neg e,ih]
theorem valV_put (kvs:List (κ×V)) (k j:κ) (y:V):valV (putK kvs k y) j=if j=k then some y else valV kvs j:=by
 unfold putK
 by_cases a:(kvs.any fun kv=>decide (kv.1=k))=true
 ·rw [if_pos a,valV_map]
  rw [valV_any] at a
  by_cases e:j=k
  ·obtain ⟨x,hx⟩:=Option.isSome_iff_exists.mp a
   rw [if_pos e,e,hx,Option.map_some,if_pos rfl]
  ·rw [if_neg e]
   cases valV kvs j with
   | none=>rfl
   | some x=>rw [Option.map_some,if_neg e]
 ·rw [if_neg a]
  refine valV_snoc k j y kvs ?_
  rw [valV_any] at a
  cases q:valV kvs k with
  | none=>rfl
  | some x=>rw [q] at a; exact (a rfl).elim
theorem length_putK (kvs:List (κ×V)) (k:κ) (v:V):(putK kvs k v).length≤kvs.length+1:=by
 unfold putK
 split
 ·rw [List.length_map]; omega
 ·rw [List.length_append,List.length_cons,List.length_nil]; omega
theorem putK_new {kvs:List (κ×V)} {k:κ} (v:V) (h:valV kvs k=none):putK kvs k v=kvs++[(k,v)]:=by
 unfold putK
 rw [valV_any,h]
 exact if_neg (by decide)

theorem RelO.isSome_eq {o:Option V} {u:Option Value} (r:RelO o u):o.isSome=u.isSome:=by
 cases o with
 | none=>cases u with
  | none=>rfl
  | some _=>exact (show False from r).elim
 | some _=>cases u with
  | none=>exact (show False from r).elim
  | some _=>rfl
theorem RelO.getD {o:Option V} {u:Option Value} {d:V} {d':Value} (r:RelO o u) (rd:RelV d d'):RelV (o.getD d) (u.getD d'):=by
 cases o with
 | none=>cases u with
  | none=>exact rd
  | some _=>exact (show False from r).elim
 | some _=>cases u with
  | none=>exact (show False from r).elim
  | some _=>exact r

theorem KV.val {kvs:List (κ×V)} {vs:List (κ×Value)} (r:KV kvs vs) (k:κ):RelO (valV kvs k) (valueAt vs k):=by
 unfold KV at r
 induction r with
 | nil=>exact True.intro
 | @cons p q ps qs h t ih=>
  obtain ⟨h1,h2⟩:=h
  by_cases e:p.1=k
  ·have e':q.1=k:=h1.symm.trans e
   have b:valueAt (q::qs) k=some q.2:=by simp [valueAt,List.find?_cons,e']
   rw [valV_pos e,b]; exact h2
  ·have e':¬ q.1=k:=fun z=>e (h1.trans z)
   have b:valueAt (q::qs) k=valueAt qs k:=by simp [valueAt,List.find?_cons,e']
   rw [valV_neg e,b]; exact ih
theorem KV.any {kvs:List (κ×V)} {vs:List (κ×Value)} (r:KV kvs vs) (k:κ):(kvs.any fun kv=>decide (kv.1=k))=vs.any fun kv=>decide (kv.1=k):=by
 unfold KV at r
 induction r with
 | nil=>rfl
 | cons h t ih=>rw [List.any_cons,List.any_cons,ih,h.1]
theorem KV.repl {kvs:List (κ×V)} {vs:List (κ×Value)} (r:KV kvs vs) (k:κ) {y:V} {u:Value} (ry:RelV y u) :
  KV (kvs.map fun kv=>if kv.1=k then (kv.1,y) else kv) (vs.map fun kv=>if kv.1=k then (kv.1,u) else kv):=by
 unfold KV at r ⊢
 induction r with
 | nil=>exact .nil
 | @cons p q ps qs h t ih=>
  rw [List.map_cons,List.map_cons]
  refine .cons ?_ ih
  obtain ⟨h1,h2⟩:=h
  by_cases e:p.1=k
  ·rw [if_pos e,if_pos (h1.symm.trans e)]; exact ⟨h1,ry⟩
  ·rw [if_neg e,if_neg (fun z=>e (h1.trans z))]; exact ⟨h1,h2⟩
theorem KV.put {kvs:List (κ×V)} {vs:List (κ×Value)} (r:KV kvs vs) (k:κ) {y:V} {u:Value} (ry:RelV y u):KV (putK kvs k y) (stored vs k u):=by
 unfold putK stored
 rw [r.any k]
 by_cases e:(vs.any fun kv=>decide (kv.1=k))=true
 ·rw [if_pos e,if_pos e]; exact r.repl k ry
 ·rw [if_neg e,if_neg e]; exact Paired.snoc r ⟨rfl,ry⟩
theorem KV.length {kvs:List (κ×V)} {vs:List (κ×Value)} (r:KV kvs vs):kvs.length=vs.length:=Paired.length r
end


theorem kV_is {P:Program} {w:World} {k:Key} {u:Value} (r:RelV (kV k) u):(mixKind P w).is k u=true:=by
 cases k with
 | inl i=>obtain ⟨t,e⟩:=(show ∃ t,u=Value.int i t from r); subst e; exact mixKind_int P w i t
 | inr x=>obtain ⟨t,e⟩:=(show ∃ t,u=Value.str x t from r); subst e; exact mixKind_str P w x t
theorem items_are {P:Program} {w:World}:∀ {ks:List Key} {us:List Value},Vals (ks.map kV) us→ItemsAre (mixKind P w) ks us
 | [],_,r=>by rw [List.map_nil] at r; cases r; exact .nil
 | k::ks,_,r=>by
  rw [List.map_cons] at r
  cases r with
  | cons h t=>exact .cons (kV_is h) (items_are t)

noncomputable abbrev KT (H:Hp):List (List Key×V)→List (List Key×Addr×Value)→Prop:=Paired fun p q=>p.1=q.1∧H q.2.1=some (.tup (p.1.map kV))∧RelV p.2 q.2.2
theorem KT.val {H:Hp} {kvs:List (List Key×V)} {xs:List (List Key×Addr×Value)} (r:KT H kvs xs) (k:List Key):RelO (valV kvs k) ((atKey xs k).map (·.2)):=by
 induction r with
 | nil=>exact True.intro
 | @cons p q ps qs h t ih=>
  obtain ⟨h1,_,h2⟩:=h
  by_cases e:p.1=k
  ·have e':q.1=k:=h1.symm.trans e
   have b:atKey (q::qs) k=some q.2:=by simp [atKey,List.find?_cons,e']
   rw [valV_pos e,b]; exact h2
  ·have e':¬ q.1=k:=fun z=>e (h1.trans z)
   have b:atKey (q::qs) k=atKey qs k:=by simp [atKey,List.find?_cons,e']
   rw [valV_neg e,b]; exact ih
theorem KT.repl {H:Hp} {kvs:List (List Key×V)} {xs:List (List Key×Addr×Value)} (r:KT H kvs xs) (k:List Key) {y:V} {u:Value} (ry:RelV y u) :
  KT H (kvs.map fun kv=>if kv.1=k then (kv.1,y) else kv) (xs.map (putAt k u)):=by
 induction r with
 | nil=>exact .nil
 | @cons p q ps qs h t ih=>
  rw [List.map_cons,List.map_cons]
  refine .cons ?_ ih
  obtain ⟨h1,h2,h3⟩:=h
  unfold putAt
  by_cases e:p.1=k
  ·rw [if_pos e,if_pos (h1.symm.trans e)]; exact ⟨h1,h2,ry⟩
  ·rw [if_neg e,if_neg (fun z=>e (h1.trans z))]; exact ⟨h1,h2,h3⟩
theorem KT.put {H:Hp} {kvs:List (List Key×V)} {xs:List (List Key×Addr×Value)} (r:KT H kvs xs) (k:List Key) {b:Addr} {y:V} {u:Value} (hb:H b=some (.tup (k.map kV))) (ry:RelV y u) :
  KT H (putK kvs k y) (storedH xs k b u):=by
 have e:(kvs.any fun kv=>decide (kv.1=k))=(atKey xs k).isSome:=by
  rw [valV_any,(r.val k).isSome_eq,Option.isSome_map]
 unfold putK storedH
 rw [e]
 by_cases q:(atKey xs k).isSome=true
 ·rw [if_pos q,if_pos q]; exact r.repl k ry
 ·rw [if_neg q,if_neg q]; exact Paired.snoc r ⟨rfl,hb,ry⟩
theorem KT.keeps {H H':Hp} {kvs:List (List Key×V)} {xs:List (List Key×Addr×Value)} (r:KT H kvs xs) (ht:∀ b ys,H b=some (.tup ys)→H' b=some (.tup ys)):KT H' kvs xs:=
 Paired.mapP r fun _ _ z=>⟨z.1,ht _ _ z.2.1,z.2.2⟩

section
variable {P:Program} {w:World} {H:Hp} {h:Heap} {a:Addr}
theorem rd_of {u:HO} (ok:HOk P w H h) (e:Rd H a u):ObjOk P w H h a u:=e.ok ok
theorem dk_rd {kvs:List (Key×V)} (ok:HOk P w H h) (e:Rd H a (.dK kvs)):kvs.length≤sizeLine∧(a==sysModules)=false∧∃ vs,KV kvs vs∧h.DictOf (mixKind P w) a vs:=
 show ObjOk P w H h a (.dK kvs) from rd_of ok e
theorem dk_of {kvs:List (Key×V)} (ok:HOk P w H h) (e:H a=some (.dK kvs)):kvs.length≤sizeLine∧(a==sysModules)=false∧∃ vs,KV kvs vs∧h.DictOf (mixKind P w) a vs:=dk_rd ok (.inl e)
theorem key_of {ks:List Key} (ok:HOk P w H h) (e:H a=some (.tup (ks.map kV))):(tupleKind (mixKind P w)).is h ks a:=by
 obtain ⟨_,its,r,o,h1,h2,n,h3⟩:=(show ObjOk P w H h a (.tup (ks.map kV)) from ok a _ e)
 exact ⟨o,its.toArray,n,h1,h2,h3,by simpa using items_are r⟩
theorem dt_rd {kvs:List (List Key×V)} (ok:HOk P w H h) (e:Rd H a (.dT kvs)):kvs.length≤sizeLine∧(a==sysModules)=false ∧
  ∃ xs,KT H kvs xs∧h.DictOfH (tupleKind (mixKind P w)) a xs:=by
 obtain ⟨z,y,xs,r,o,es,ep,h1,h2,h3,h4,h5⟩:=(show ObjOk P w H h a (.dT kvs) from rd_of ok e)
 refine ⟨z,y,xs,r,o,es,ep,h1,h2,h3,h4,fun x hx=>?_,h5⟩
 have all:∀ {l:List (List Key×V)} {m:List (List Key×Addr×Value)},KT H l m→∀ x∈m,(tupleKind (mixKind P w)).is h x.1 x.2.1:=by
  intro l m q
  induction q with
  | nil=>intro x hx; exact nomatch hx
  | @cons p q ps qs hq t ih=>
   intro x hx
   rcases List.mem_cons.mp hx with e | hx
   ·subst e
    exact key_of ok (by rw [← hq.1]; exact hq.2.1)
   ·exact ih x hx
 exact all r x hx
theorem dt_of {kvs:List (List Key×V)} (ok:HOk P w H h) (e:H a=some (.dT kvs)):kvs.length≤sizeLine∧(a==sysModules)=false ∧
  ∃ xs,KT H kvs xs∧h.DictOfH (tupleKind (mixKind P w)) a xs:=dt_rd ok (.inl e)
end

noncomputable def DGet (H:Hp) (a:Addr) (y:V) (r:Option V):Prop:=
 (∃ kvs k,Rd H a (.dK kvs)∧y=kV k∧r=valV kvs k)∨∃ kvs k b,Rd H a (.dT kvs)∧y=.ref b∧H b=some (.tup (k.map kV))∧r=valV kvs k
noncomputable def DPut (H:Hp) (a:Addr) (y v:V) (H':Hp):Prop:=
 (∃ kvs k,H a=some (.dK kvs)∧y=kV k∧kvs.length<sizeLine∧H'=upd H a (.dK (putK kvs k v))) ∨
 ∃ kvs k b,H a=some (.dT kvs)∧y=.ref b∧H b=some (.tup (k.map kV))∧kvs.length<sizeLine∧H'=upd H a (.dT (putK kvs k v))
theorem DGet.k {H:Hp} {a:Addr} {kvs:List (Key×V)} {k:Key} (e:H a=some (.dK kvs)):DGet H a (kV k) (valV kvs k):=.inl ⟨kvs,k,.inl e,rfl,rfl⟩
theorem DPut.k {H:Hp} {a:Addr} {kvs:List (Key×V)} {k:Key} {v:V} (e:H a=some (.dK kvs)) (hl:kvs.length<sizeLine):DPut H a (kV k) v (upd H a (.dK (putK kvs k v))):=.inl ⟨kvs,k,e,rfl,hl,rfl⟩


section
variable {X:Cx} {pins:List (Addr×Obj)} {σ:St} {H:Hp} {s:Shared} {a:Addr} {y v:V} {u r:Value} {o:Option V} {A:Around} {E:Value→Shared→Prop}

theorem Inv.big (I:Inv X pins σ H s):sysModules<s.heap.objs.size:=by
 have h:mainGlobals<s.heap.objs.size:=(I.mod.glob.keeps I.bk).lt
 exact Nat.lt_trans (by decide) h

theorem d_getItem {Q:Value→Shared→Prop} (hu:A.units+1<cLine) (I:Inv X pins σ H s) (g:DGet H a y (some v)) (ry:RelV y u) (h:∀ w' s',Inv X pins σ H s'→RelV v w'→Q w' s') :
  wpAny (model X.prog X.w) A (getItem (.ref a) u) Q E s:=by
 rcases g with ⟨kvs,k,e,ey,l⟩ | ⟨kvs,k,b,e,ey,eb,l⟩
 ·subst ey
  obtain ⟨z,hd,vs,rel,dd⟩:=dk_rd I.hok e
  obtain ⟨w',hw,rw'⟩:=RelO.some_of (v:=v) (o:=valueAt vs k) (by rw [l]; exact rel.val k)
  exact wpAny_getItem_of (kV_is ry) dd.mapOf hw (h w' _ (I.tok _) rw')
 ·subst ey
  cases (show u=Value.ref b from ry)
  obtain ⟨z,hd,xs,rel,dd⟩:=dt_rd I.hok e
  obtain ⟨w',hw,rw'⟩:=RelO.some_of (v:=v) (o:=(atKey xs k).map (·.2)) (by rw [l]; exact rel.val k)
  obtain ⟨p,hp,hp2⟩:=Option.map_eq_some_iff.mp hw
  refine wpAny_getItem_heap (tupleKind_room_in1 hu) (key_of I.hok eb) dd hp ?_
  rw [hp2]
  exact h w' _ (I.tok _) rw'
theorem d_in {Q:Value→Shared→Prop} (hu:A.units+1<cLine) (I:Inv X pins σ H s) (g:DGet H a y o) (ry:RelV y u) (h:∀ s',Inv X pins σ H s'→Q (.bool o.isSome) s') :
  wpAny (model X.prog X.w) A (compareOp .In u (.ref a)) Q E s:=by
 rcases g with ⟨kvs,k,e,ey,l⟩ | ⟨kvs,k,b,e,ey,eb,l⟩
 ·subst ey
  obtain ⟨z,hd,vs,rel,dd⟩:=dk_rd I.hok e
  refine wpAny_in_of (kV_is ry) hd dd.mapOf ?_
  rw [← (rel.val k).isSome_eq,← l]
  exact h _ (I.tok _)
 ·subst ey
  cases (show u=Value.ref b from ry)
  obtain ⟨z,hd,xs,rel,dd⟩:=dt_rd I.hok e
  refine wpAny_in_heap (tupleKind_room_in1 hu) (key_of I.hok eb) hd dd ?_
  have q:=(rel.val k).isSome_eq
  rw [Option.isSome_map] at q
  rw [← q,← l]
  exact h _ (I.tok _)
theorem d_notIn {Q:Value→Shared→Prop} (hu:A.units+1<cLine) (I:Inv X pins σ H s) (g:DGet H a y o) (ry:RelV y u) (h:∀ s',Inv X pins σ H s'→Q (.bool (!o.isSome)) s') :
  wpAny (model X.prog X.w) A (compareOp .NotIn u (.ref a)) Q E s:=by
 rcases g with ⟨kvs,k,e,ey,l⟩ | ⟨kvs,k,b,e,ey,eb,l⟩
 ·subst ey
  obtain ⟨z,hd,vs,rel,dd⟩:=dk_rd I.hok e
  refine wpAny_notIn_of (kV_is ry) hd dd.mapOf ?_
  rw [← (rel.val k).isSome_eq,← l]
  exact h _ (I.tok _)
 ·subst ey
  cases (show u=Value.ref b from ry)
  obtain ⟨z,hd,xs,rel,dd⟩:=dt_rd I.hok e
  refine wpAny_notIn_heap (tupleKind_room_in1 hu) (key_of I.hok eb) hd dd ?_
  have q:=(rel.val k).isSome_eq
  rw [Option.isSome_map] at q
  rw [← q,← l]
  exact h _ (I.tok _)
theorem d_write {h':Heap} {t':Nat} {ob:HO} (I:Inv X pins σ H s) (mu:Mut (H a)) (hs:Heap.SameBut a s.heap h') (he:∃ q,h'.get? a=some q) (new:ObjOk X.prog X.w (upd H a ob) h' a ob) :
  Inv X pins σ (upd H a ob) { s with heap:=h',toks:=t' }:=
 I.write (x:=a) (e:=a) mu (.inl rfl) (fun b q hb z=>(hs.2 b hb).trans z) he new
theorem dk_new {P:Program} {w:World} {H':Hp} {h':Heap} {kvs:List (Key×V)} {vs:List (Key×Value)} (z:kvs.length≤sizeLine) (hd:(a==sysModules)=false) (rel:KV kvs vs) (dd:h'.DictOf (mixKind P w) a vs) :
  ObjOk P w H' h' a (.dK kvs):=⟨z,hd,vs,rel,dd⟩
theorem d_setItem {H':Hp} {Q:Unit→Shared→Prop} (hu:A.units+1<cLine) (I:Inv X pins σ H s) (g:DPut H a y v H') (ry:RelV y u) (rv:RelV v r) (h:∀ s',Inv X pins σ H' s'→Q () s') :
  wpAny (model X.prog X.w) A (setItem (.ref a) u r) Q E s:=by
 rcases g with ⟨kvs,k,e,ey,l,eH⟩ | ⟨kvs,k,b,e,ey,eb,l,eH⟩
 ·subst ey eH
  obtain ⟨z,hd,vs,rel,dd⟩:=dk_of I.hok e
  have hz:vs.length≤sizeLine:=by rw [← rel.length]; exact z
  have hl:(putK kvs k v).length≤sizeLine:=by have:=length_putK kvs k v; omega
  refine wpAny_setItem_pairs (hsz:=hz) (kV_is ry) dd fun h' dd' hs=>h _ ?_
  have he:∃ q,h'.get? a=some q:=let ⟨q,_,_,hq,_⟩:=dd'; ⟨q,hq⟩
  exact d_write I (by rw [e]; exact True.intro) hs he (dk_new hl hd (rel.put k rv) dd')
 ·subst ey eH
  cases (show u=Value.ref b from ry)
  obtain ⟨z,hd,xs,rel,dd⟩:=dt_of I.hok e
  have hz:xs.length≤sizeLine:=by rw [← Paired.length rel]; exact z
  have hl:(putK kvs k v).length≤sizeLine:=by have:=length_putK kvs k v; omega
  refine wpAny_setItem_heap (hsz:=hz) (tupleKind_room_in1 hu) (key_of I.hok eb) dd fun h' dd' hs=>h _ ?_
  obtain ⟨q,es,ep,hq,h2,h3,h4,_,h5⟩:=dd'
  refine d_write I (by rw [e]; exact True.intro) hs ⟨q,hq⟩ ⟨hl,hd,_,(rel.put k eb rv).keeps fun c ys ec=>?_,q,es,ep,hq,h2,h3,h4,h5⟩
  rw [upd_ne (ne_of ec e (fun z=>nomatch z))]
  exact ec
end

section
variable {X:Cx} {pins:List (Addr×Obj)} {σ:St} {H:Hp} {s:Shared} {a:Addr} {kvs:List (Key×V)} {k:Key} {u:Value} {A:Around} {E:Value→Shared→Prop}
theorem d_len {Q:Value→Shared→Prop} (I:Inv X pins σ H s) (e:Rd H a (.dK kvs)) (h:∀ t s',Inv X pins σ H s'→Q (.int kvs.length t) s'):wpAny (model X.prog X.w) A (call (.builtin "len") [.ref a]) Q E s:=by
 obtain ⟨z,hd,vs,rel,dd⟩:=dk_rd I.hok e
 refine call_len_dict hd dd (by rw [← rel.length]; rw [sizeLine_eq] at z; omega) ?_
 rw [← rel.length]
 exact h _ _ (I.tok _)
end


noncomputable def NoSl (i:Expr):Prop:=∀ ov iv,subscripted i false ov iv=operate [ov,iv] (getItem ov iv)
theorem subD_of {prog:Program} {w:World} {A:Around} {E:Value→Shared→Prop} {s:Shared} {env:Env} {value slice:Expr} {pos:Pos} {T id:String} {Q:Value→Shared→Prop}
  (hl:typeLookup (.type T) "__getitem__"=pure (some (.builtin id))) (hs:NoSl slice)
  (h:wpAny (model prog w) A (eval value env) (fun o s₁=>wpAny (model prog w) A (eval slice env) (fun i s₂=>s₂.TypeIs o T∧wpAny (model prog w) A (getItem o i) Q E s₂) E s₁) E s) :
  wpAny (model prog w) A (eval (.Subscript value slice pos) env) Q E s:=by
 refine Subscript_ (wpAny_mono h (fun o s₁ h₁=>wpAny_mono h₁ (fun i s₂ h₂=>?_) fun _ _ x=>x) fun _ _ x=>x)
 obtain ⟨hT,h₂⟩:=h₂
 unfold subscriptTail
 refine wpAny_bind ?_
 rw [getitemInPython_of_ne hT.not_modules]
 refine wpAny_bind (wpAny_specialOf hT hl ?_)
 have fin:wpAny (model prog w) A (subscripted slice false o i) (fun r s₃=>wpAny (model prog w) A (letTemporaryGo value o r>>=fun _=>pure r) Q E s₃) E s₂:=by
  rw [hs o i]
  exact wpAny_operating (wpAny_mono h₂ (fun r s₃ h₃=>wpAny_bind (wpAny_letTemporaryGo (wpAny_pure h₃))) fun _ _ x=>x)
 first
  | exact wpAny_pure (wpAny_bind fin)
  | exact wpAny_bind (wpAny_pure (wpAny_bind fin))
  | exact wpAny_bind fin

theorem dict_typeIs {X:Cx} {pins:List (Addr×Obj)} {σ:St} {H:Hp} {s:Shared} {a:Addr} {y:V} {o:Option V} (I:Inv X pins σ H s) (g:DGet H a y o):s.TypeIs (.ref a) "dict":=by
 rcases g with ⟨kvs,k,e,_,_⟩ | ⟨kvs,k,b,e,_,_,_⟩
 ·obtain ⟨_,_,vs,_,dd⟩:=dk_rd I.hok e
  exact dd.typeIs
 ·obtain ⟨_,_,xs,_,dd⟩:=dt_rd I.hok e
  exact dd.typeIs

inductive IsGet (x y:V) (H:Hp) (Q:VK):Prop
 | mk (a:Addr) (v:V) (h1:x=.ref a) (h2:DGet H a y (some v)) (q:Q v H)
inductive IsInD (x y:V) (H:Hp) (Q:Option V→Hp→Prop):Prop
 | mk (a:Addr) (o:Option V) (h1:x=.ref a) (h2:DGet H a y o) (q:Q o H)
noncomputable def tDGet (td ty:TE):TE:=fun σ H Q=>td σ H fun x H1=>ty σ H1 fun y H2=>IsGet x y H2 Q
noncomputable def tDIn (ty td:TE):TE:=fun σ H Q=>ty σ H fun y H1=>td σ H1 fun x H2=>IsInD x y H2 fun o H2=>Q (.bl o.isSome) H2
noncomputable def tDNotIn (ty td:TE):TE:=fun σ H Q=>ty σ H fun y H1=>td σ H1 fun x H2=>∃ a o,x=.ref a∧DGet H2 a y o∧Q (.bl (!o.isSome)) H2
inductive IsDPut (x y v:V) (H3:Hp) (R:Hp→Prop):Prop
 | mk (a:Addr) (H4:Hp) (h1:x=.ref a) (h2:DPut H3 a y v H4) (q:R H4)
noncomputable def sDPut (td ty tv:TE):TS:=fun D σ H=>tv σ H fun v H1=>td σ H1 fun x H2=>ty σ H2 fun y H3=>IsDPut x y v H3 (D.nx σ)

section
variable {X:Cx} {o i e value:Expr} {pos pos' tpos:Pos} {td ty tv:TE}
theorem pe_dget (hu:X.A.units+1<cLine) (ho:PE X o td) (hi:PE X i ty) (hs:NoSl i):PE X (.Subscript o i pos) (tDGet td ty):=by
 intro pins s σ H Q I h
 refine subD_of PySem.F.slot_dict_getitem.lookup hs (thn (ho pins s σ H _ I h) fun u s1 ⟨x,H1,I1,rx,q1⟩=>thn (hi pins s1 σ H1 _ I1 q1) fun iv s2 ⟨y,H2,I2,ry,a,v,ex,g,q2⟩=>?_)
 subst ex
 obtain rfl:u=Value.ref a:=rx
 exact ⟨dict_typeIs I2 g,d_getItem hu I2 g ry fun w' s3 I3 rw'=>⟨v,H2,I3,rw',q2⟩⟩
theorem pc_din (hu:X.A.units+1<cLine) (hi:PE X i ty) (ho:PE X o td):PC X .In i o (tDIn ty td):=by
 intro pins s σ H Q I h
 refine thn (hi pins s σ H _ I h) fun iv s1 ⟨y,H1,I1,ry,q1⟩=>thn (ho pins s1 σ H1 _ I1 q1) fun u s2 ⟨x,H2,I2,rx,a,ov,ex,g,q2⟩=>?_
 subst ex
 obtain rfl:u=Value.ref a:=rx
 exact d_in hu I2 g ry fun s3 I3=>⟨.bl ov.isSome,H2,I3,rfl,q2⟩
theorem pc_dnotin (hu:X.A.units+1<cLine) (hi:PE X i ty) (ho:PE X o td):PC X .NotIn i o (tDNotIn ty td):=by
 intro pins s σ H Q I h
 refine thn (hi pins s σ H _ I h) fun iv s1 ⟨y,H1,I1,ry,q1⟩=>thn (ho pins s1 σ H1 _ I1 q1) fun u s2 ⟨x,H2,I2,rx,a,ov,ex,g,q2⟩=>?_
 subst ex
 obtain rfl:u=Value.ref a:=rx
 exact d_notIn hu I2 g ry fun s3 I3=>⟨.bl (!ov.isSome),H2,I3,rfl,q2⟩
theorem ps_dput (hu:X.A.units+1<cLine) (ho:PE X o td) (hi:PE X i ty) (hv:PE X value tv) (hs:swapsWith value (some (.Subscript o i pos')) pos.line X.env=pure false) :
  PS X (.Assign [.Subscript o i pos'] value pos) (sDPut td ty tv):=by
 intro pins s σ H D I h
 refine wpAny_Assign_Subscript (thn (hv pins s σ H _ I h) fun r s1 ⟨v,H1,I1,rv,q1⟩=>thn (ho pins s1 σ H1 _ I1 q1) fun u s2 ⟨x,H2,I2,rx,q2⟩=>thn (hi pins s2 σ H2 _ I2 q2) fun iv s3 ⟨y,H3,I3,ry,a,H4,ex,g,q3⟩=>?_) hs
 subst ex
 obtain rfl:u=Value.ref a:=rx
 exact d_setItem hu I3 g ry rv fun s4 I4=>⟨σ,H4,I4,q3⟩
end


theorem dk_empty {P:Program} {w:World} {H:Hp} (h:Heap) (hb:sysModules<h.objs.size):ObjOk P w H (h.push { cls:=.type "dict",data:=.dict #[] }) h.objs.size (.dK []):=
 ⟨Nat.zero_le _,beq_eq_false_iff_ne.mpr (Ne.symm (Nat.ne_of_lt hb)),[],.nil,Heap.DictOf.new h⟩
noncomputable def tDNewK:TE:=fun _ H Q=>∀ p,H p=none→Q (.ref p) (upd H p (.dK []))
section
variable {X:Cx} {pos:Pos}
theorem pe_dnewK:PE X (.Dict [] [] pos) tDNewK:=fun pins s σ H Q I h=>
 wpAny_Dict_empty ⟨.ref s.heap.objs.size,_,I.laid (a:=s.heap.objs.size) (o:=.dK []) (t':=s.toks) (fun _ _ q=>Heap.get?_push_of_some _ q) (Nat.le_refl _) (dk_empty s.heap I.big),rfl,h _ (I.hok.fresh (Nat.le_refl _))⟩
end




structure M1 (X:Cx) (o:Expr) (m:Str) (apos:Pos) (e:Expr) (cpos:Pos):Prop where
 base:attributeBase o m X.env (eval o X.env)=eval o X.env
 few:((backTo cpos (starEach [e] X.env)).all (fun x=>!x.1)&&(backToKw cpos (keywordEach [] X.env)).all (fun x=>x.1.isSome)
  && decide (([e]:List Expr).length+([]:List Keyword).length+(if ([]:List Keyword).isEmpty then 0 else 1)<30))=true
 line:(apos.endLine==cpos.line)=true
 trees:backTo cpos (starEach [e] X.env)=[(false,eval e X.env)]

noncomputable def IsD (H:Hp) (a:Addr):Prop:=(∃ kvs,Rd H a (.dK kvs))∨∃ kvs,Rd H a (.dT kvs)
theorem isD_at {X:Cx} {pins:List (Addr×Obj)} {σ:St} {H:Hp} {s:Shared} {a:Addr} (I:Inv X pins σ H s) (d:IsD H a) :
  s.TypeIs (.ref a) "dict" ∧ (∀ b,Value.ref a=.ref b→∃ ob,s.heap.get? b=some ob∧ob.dict=none)∧(a==sysModules)=false:=by
 rcases d with ⟨kvs,e⟩ | ⟨kvs,e⟩
 ·obtain ⟨_,hd,vs,_,dd⟩:=dk_rd I.hok e
  refine ⟨dd.typeIs,fun b q=>?_,hd⟩
  cases q
  obtain ⟨ob,_,_,h1,h2,_⟩:=dd
  exact ⟨ob,h1,h2.2.1⟩
 ·obtain ⟨_,hd,xs,_,dd⟩:=dt_rd I.hok e
  refine ⟨dd.typeIs,fun b q=>?_,hd⟩
  cases q
  obtain ⟨ob,_,_,h1,h2,_⟩:=dd
  exact ⟨ob,h1,h2.2.1⟩

section
variable {X:Cx} {pins:List (Addr×Obj)} {σ:St} {H:Hp} {s:Shared} {a:Addr} {y d:V} {u r:Value} {o:Option V} {A:Around} {E:Value→Shared→Prop}
theorem d_get1 {Q:Value→Shared→Prop} (hu:A.units+1<cLine) (I:Inv X pins σ H s) (g:DGet H a y o) (ry:RelV y u) (h:∀ w' s',Inv X pins σ H s'→RelV (o.getD .non) w'→Q w' s') :
  wpAny (model X.prog X.w) A (call (.builtin "dict.get") [.ref a,u]) Q E s:=by
 rcases g with ⟨kvs,k,e,ey,l⟩ | ⟨kvs,k,b,e,ey,eb,l⟩
 ·subst ey
  obtain ⟨z,hd,vs,rel,dd⟩:=dk_rd I.hok e
  refine call_meetsIn PySem.F.slot_dict_get dd.typeIs PySem.F.entry_dict_get (PySem.F.args_dict_get_2 _ _) (meets_dict_get (mixKind X.prog X.w) a (kV_is ry) hd) ⟨_,dd.mapOf,h _ _ (I.tok _) ?_⟩
  rw [l]
  exact (rel.val k).getD rfl
 ·subst ey
  cases (show u=Value.ref b from ry)
  obtain ⟨z,hd,xs,rel,dd⟩:=dt_rd I.hok e
  refine call_meetsIn PySem.F.slot_dict_get dd.typeIs PySem.F.entry_dict_get (PySem.F.args_dict_get_2 _ _) (meetsH_dict_get (tupleKind (mixKind X.prog X.w)) a b hd) ⟨tupleKind_room_in1 hu,k,xs,key_of I.hok eb,dd,h _ _ (I.tok _) ?_⟩
  rw [l]
  exact (rel.val k).getD rfl
end

noncomputable def tDGet1 (td ty:TE):TE:=fun σ H Q=>td σ H fun x H1=>∃ a,x=.ref a∧IsD H1 a∧ty σ H1 fun y H2=>∃ o,DGet H2 a y o∧Q (o.getD .non) H2
section
variable {X:Cx} {o e f:Expr} {apos cpos:Pos} {td ty tx:TE}
theorem pe_dget1 (hu:X.A.units+1<cLine) (ho:PE X o td) (he:PE X e ty) (m:M1 X o "get" apos e cpos):PE X (.Call (.Attribute o "get" apos) [e] [] cpos) (tDGet1 td ty):=by
 intro pins s σ H Q I h
 refine wpAny_Call_method m.base m.few m.line PySem.F.plainAttrs_dict PySem.F.slot_dict_get PySem.F.type_dict_get (thn (ho pins s σ H _ I h) fun u s1 ⟨x,H1,I1,rx,a,ex,d,q1⟩=>?_)
 subst ex
 obtain rfl:u=Value.ref a:=rx
 obtain ⟨t1,t2,_⟩:=isD_at I1 d
 refine ⟨t1,t2,?_⟩
 rw [m.trees]
 refine Calls.callWith_builtin rfl (Calls.evalArgs_plain (Calls.spliced_cons (thn (he pins s1 σ H1 _ I1 q1) fun iv s2 ⟨y,H2,I2,ry,ov,g,q2⟩=>Calls.spliced_nil ?_)))
 exact d_get1 hu I2 g ry fun w' s3 I3 rw'=>⟨_,H2,I3,rw',q2⟩
end

section
variable {X:Cx} {pins:List (Addr×Obj)} {σ:St} {H:Hp} {s:Shared} {a:Addr} {kvs:List (Key×V)} {A:Around} {E:Value→Shared→Prop}
end


section
variable {X:Cx} {pins:List (Addr×Obj)} {σ:St} {H:Hp} {s:Shared} {a:Addr} {y:V} {u:Value} {A:Around} {E:Value→Shared→Prop}
end
end L2

namespace Att
open PySem PySem.W PySem.Calls PyProof.Rows

theorem ints_of_wellAll {P:Params} {h:Heap}:∀ (ns:List Int) (vs:List Value),WellAll P h vs (ns.map WData.int)→IntsAre vs ns:=by
 intro ns
 induction ns with
 | nil=>
  intro vs w
  rw [List.map_nil] at w
  cases w
  exact .nil
 | cons n ns ih=>
  intro vs w
  rw [List.map_cons] at w
  cases w with
  | cons a b=>
   cases a
   exact .cons _ _ (ih _ b)

theorem script_of {l:OpenLaw} {n:Nat} (hn:l.most=some n) {P:Params} {h:Heap} {args:List WData} {vals:List Value}
  (hpre:l.row.toRowW.claim.pre args=true) (hwl:WellAll P h vals args) :
  ∃ a vs ns,vals=[Value.ref a]∧args=[WData.list (ns.map WData.int)]∧h.get? a=some { cls:=.type "list",data:=.seq vs.toArray }∧IntsAre vs ns∧ns.length≤n:=by
 have hsh:WShape.hasAll [] args [.list .int]=true:=(pre_splitW hpre).1
 have hc:l.pre.holds [] { args:=args }=true:=(pre_splitW hpre).2
 obtain ⟨d,r,rfl,h1,h2⟩:=hasAllW_cons hsh
 obtain rfl:=hasAllW_nil h2
 obtain ⟨xs,rfl,h3⟩:=hasW_list h1
 obtain ⟨ns,rfl⟩:=items_int h3
 have hlen:ns.length≤n:=by
  unfold OpenLaw.pre at hc
  have h4:(WTm.not (.lt (.lit (.int (n:Int))) (.len (.arg 0)))).holds [] { args:=[.list (ns.map .int)] }=true:=by
   have h4:=(holds_andW hc).1
   rw [hn] at h4
   exact h4
  have h5:=condW_of h4 (w_not (w_lt w_lit (w_len_list (w_arg rfl))))
  rw [List.length_map] at h5
  refine Nat.le_of_not_lt fun q=>?_
  have q':(n:Int)<((ns.length:Nat):Int):=by omega
  first
   | (rw [decide_eq_true q'] at h5; exact absurd h5 (by decide))
   | (simp at h5; omega)
 cases hwl with
 | cons w1 w2=>
  cases w2
  cases w1 with
  | list ho hall=>exact ⟨_,_,ns,rfl,rfl,ho,ints_of_wellAll ns _ hall,hlen⟩

theorem post_true (l:OpenLaw) (args:List WData):l.row.toRowW.claim.post args (.bool true) args=true:=
 postW_of (r:=l.row.toRowW) (X:=(true==true))
  (show WShape.has [] (.bool true) .bool=true by first | rfl | decide | simp [WShape.has,WShape.arms,WShape.armsAll])
  (show (WTm.eq .res (.lit (.bool true))).value [] { args:=args,res:=some (.bool true),after:=args }=some (.bool (true==true)) from w_eq_bool (w_res rfl) w_lit) rfl


theorem attach_call {l:OpenLaw} {n:Nat} {q:Program} {loose:List Str} {XP:(Str→Option Value)→Heap→Prop} {YP:World→Heap→Prop} {d:DefRec}
  (hn:l.most=some n) (hdf:d.params.defaults=[])
  (call:∀ (w:World) (s₀ s₁:Shared) (mg mb:Str→Option Value) (fa:Addr) (o:Obj) (pm cd doc:Value) (a:Addr) (vs:List Value) (ns:List Int),
   Ground q loose [] XP w s₀ mg mb s₁.heap→YP w s₁.heap →
   s₁.heap.get? fa=some o→o.data=.func (docDef d.name d.params d.body d.scope pm cd doc)→s₁.heap.CodeRec cd d.name→mg d.name=some (.ref fa) →
   s₁.heap.get? a=some { cls:=.type "list",data:=.seq vs.toArray }→IntsAre vs ns→ns.length≤n→s₁.gens=#[] →
   codeAny (model l.prog w) callerA (.call (.ref fa) ⟨[.ref a],[]⟩) (fun r s'=>r=.ok (.ret (.bool true))∧OldK s₁.heap s'.heap∧s'.os=s₁.os∧AllBare s'.gens) s₁) :
  WalkO q loose XP YP l.row.toRowW d [] (fun f vs=>PySem.call f vs):=by
 intro w s₀ s₁ mg mb G Y fa o pm cd doc dV kV ho hd hcd hD hmg hg args vals as hpre hlay hrd hwl hlo
 obtain rfl:dV=.none:=Dflts.none hD hdf
 obtain rfl:kV=.none:=Dflts.noKw hD
 obtain ⟨a,vs,ns,rfl,rfl,hobj,hints,hlen⟩:=script_of hn hpre hwl
 refine enter_call (codeAny_mono (call w s₀ s₁ mg mb fa o pm cd doc a vs ns G Y ho (fd_plain hd) hcd hmg hobj hints hlen hg) fun r s' hq=>?_)
 obtain ⟨rfl,h2,h3,h4⟩:=hq
 exact ⟨.inl ⟨.bool true,.bool true,[],rfl,fun _=>rfl,.bool true,post_true l _,fun _=>⟨List.Pairwise.nil,fun _ hm=>(nomatch hm)⟩⟩,h2,h3,h4⟩


section
variable {prog:Program} {w:World} {A:Around} {E:Value→Shared→Prop} {s:Shared} {K:Frag}






end
end Att

namespace L2
open PySem PySem.Spec PyProof.Rows

theorem vals_ints:∀ {vs:List Value} {ns:List Int},IntsAre vs ns→Vals (ns.map V.int) vs
 | _,_,.nil=>.nil
 | _,_,.cons n t h=>.cons ⟨t,rfl⟩ (vals_ints h)


end L2

namespace L2
open PySem PySem.Spec PyProof.Rows


end L2



namespace L2
open PySem PySem.Spec PyProof.Rows

noncomputable def inClass (s:Stmt) (j:Nat):Stmt:=match s with
 | .ClassDef _ _ _ body _ _ _ _ _ _ _=>body.getD j (.Pass ⟨0,0,0,0⟩)
 | _=>.Pass ⟨0,0,0,0⟩
noncomputable def defArgs (s:Stmt):Arguments:=match s with
 | .FunctionDef _ a _ _ _ _ _ _ _ _=>a
 | _=>{ posonlyargs:=[],args:=[],vararg:=none,kwonlyargs:=[],kw_defaults:=[],kwarg:=none,defaults:=[] }
noncomputable def defBody (s:Stmt):List Stmt:=match s with
 | .FunctionDef _ _ b _ _ _ _ _ _ _=>b
 | _=>[]
noncomputable def defScope (s:Stmt):Scope:=match s with
 | .FunctionDef _ _ _ _ _ _ sc _ _ _=>sc
 | _=>{ kind:=.function,names:=[],isGenerator:=false,isCoroutine:=false }

noncomputable abbrev CX0:CXT:=fun _ _ _ _ _ _=>False
noncomputable abbrev E0:XK:=fun _ _ _=>False
theorem pass0 {X:Cx}:Passes CX0 X E0:=fun _ _ _ _ _ _ _ h=>h.elim

structure Fun (K:PySem.W.Frag) (x qual:Str) (st:Stmt) (f:Addr) (fd:FuncData):Prop where
 ex:∃ (oc:Value) (od:Option Addr) (kV doc pm:Value) (an:Option Addr) (cdv ct:Value) (osl:Array (Option Value)),
  fd=PySem.W.fnOf x qual (defArgs st) (defBody st) (defScope st) .none kV doc pm an cdv ct∧K.lookup f=some ⟨oc,od,.func fd,osl⟩∧PySem.W.codeIn K cdv qual=true
 kp:PySem.W.keepIn K (.ref f)=true
section
variable {P:Program} {w:World} {K:PySem.W.Frag} {mg:Str→Option Value} {base:Heap}
theorem Fun.ok {x qual:Str} {st:Stmt} {f:Addr} {fd:FuncData} {N ps:List Str} {k:Nat} {sp:Sp} (F:Fun K x qual st f fd) (S:FnScope N ps (defScope st)) (len:∀ vs H Q E,sp vs H Q E→vs.length=ps.length)
  (hbody:∀ (cdv:Value) (A:Around) (outer:List Env) (s:Shared) (H:Hp) (vs:List V) (Q:VK) (E:XK),Room k (A.deeper (envOfC qual (defScope st) s.heap.objs.size f cdv))→sp vs H Q E →
   ∃ t,PSs (cxOf CX0 P w K mg base N qual (defScope st) f cdv A outer s H E).nox (defBody st) t∧t { nx:=fun _ H'=>Q .non H',rt:=Q } (start N vs) H):FnOk P w K mg base CX0 (k+1) f fd ps sp:=by
 obtain ⟨oc,od,kV,doc,pm,an,cdv,ct,osl,rfl,lk,hcd⟩:=F.ex
 refine fn_of lk hcd S len fun A outer s H vs Q E hr hsp=>?_
 obtain ⟨t,h,q⟩:=hbody cdv A outer s H vs Q E hr hsp
 exact ⟨t,h.nox,q⟩
theorem Fun.binds {x qual:Str} {st:Stmt} {f:Addr} {fd:FuncData} {ps:List Str} (F:Fun K x qual st f fd)
  (h:∀ (kV doc pm:Value) (an:Option Addr) (cdv ct:Value) (us:List Value),us.length=ps.length→bindArgs (PySem.W.fnOf x qual (defArgs st) (defBody st) (defScope st) .none kV doc pm an cdv ct) ⟨us,[]⟩=pure (ps.zip us)):Binds K fd ps []:=by
 obtain ⟨oc,od,kV,doc,pm,an,cdv,ct,osl,rfl,lk,hcd⟩:=F.ex
 exact .all (h kV doc pm an cdv ct)
theorem fun_mk {x qual:Str} {st:Stmt} {f:Addr} {oc:Value} {od an:Option Addr} {osl:Array (Option Value)} {kV doc pm cdv ct:Value} (l:K.lookup f=some ⟨oc,od,.func (PySem.W.fnOf x qual (defArgs st) (defBody st) (defScope st) .none kV doc pm an cdv ct),osl⟩)
  (c:PySem.W.codeIn K cdv qual=true) (k:PySem.W.keepIn K (.ref f)=true):Fun K x qual st f (PySem.W.fnOf x qual (defArgs st) (defBody st) (defScope st) .none kV doc pm an cdv ct):=⟨⟨oc,od,kV,doc,pm,an,cdv,ct,osl,rfl,l,c⟩,k⟩
end
theorem hu_of {A:Around} {k:Nat} (hr:Room k A):A.units+1<cLine:=Nat.lt_of_le_of_lt (Nat.add_le_add_left (by decide:1≤64) _) hr.units
theorem small1000 {n:Nat} (h:n≤1000):n<sizeLine:=Nat.lt_of_le_of_lt h (by decide)

section
variable {X:Cx}
theorem pv (i:Nat) {x:Str} {pos:Pos} (hN:X.N[i]?=some x:=by rfl) (hv:Vis X.env.scope x:=by first | exact Or.inl rfl | exact Or.inr (Or.inl rfl) | exact Or.inr (Or.inr rfl)) (hd:(x==("__debug__" : Str))=false:=by decide)
  (hcd:(x==("__classdict__" : Str))=false:=by decide):PE X (.Name x pos) (tVar i):=pe_var hN hv hd hcd
end

theorem iteF {A B:Prop} (h:B):if false=true then A else B:=by
 rw [if_neg Bool.false_ne_true]
 exact h
theorem iteT {A B:Prop} (h:A):if true=true then A else B:=by
 rw [if_pos rfl]
 exact h
theorem ite2 {c A B:Prop} [Decidable c] (h1:c→A) (h2:¬ c→B):if c then A else B:=by
 by_cases h:c
 ·rw [if_pos h]
  exact h1 h
 ·rw [if_neg h]
  exact h2 h

noncomputable def Same (H H':Hp):Prop:=∀ b o,H b=some o→H' b=some o
theorem Same.refl (H:Hp):Same H H:=fun _ _ h=>h
theorem Same.trans {H H1 H2:Hp} (a:Same H H1) (b:Same H1 H2):Same H H2:=fun c o h=>b c o (a c o h)
theorem Same.free {H H':Hp} (e:Same H H') {l:Addr} (h:H' l=Option.none):H l=Option.none:=by
 cases q:H l with
 | none=>rfl
 | some o=>
  rw [e l o q] at h
  cases h
theorem Same.seq {K:PySem.W.Frag} {H H':Hp} {a:Addr} {xs:List V} (e:Same H H') (h:SqL K H a xs):SqL K H' a xs:=by
 rcases h with (h | ⟨o,h⟩) | h
 ·exact .inl (.inl (e _ _ h))
 ·exact .inl (.inr ⟨o,e _ _ h⟩)
 ·exact .inr h

end L2


namespace L2
open PySem PySem.Spec PyProof.Rows
section
variable {X:Cx}
inductive LenD (xs:List V) (H:Hp) (Q:VK):Prop
 | mk (a:_) (kvs:_) (h0_:xs=[V.ref a]) (h1_:H a=some (.dK kvs)) (h2_:Q (.int kvs.length) H)
theorem call_lenD:CallR X (.builtin "len") LenD:=by
 intro pins s σ H xs us Q I r h
 obtain ⟨a,kvs,rfl,ha,q⟩:=h
 obtain ⟨u,rfl,ru⟩:=vals1 r
 cases ru
 exact d_len I (.inl ha) fun t s' I'=>⟨.int kvs.length,H,I',⟨t,rfl⟩,q⟩
end
section
variable {κ:Type} [DecidableEq κ]
end
end L2
namespace L2
open PySem PySem.Spec PyProof.Rows

noncomputable def signV (c:Nat):V:=.str ⟨#[c]⟩
noncomputable def Its (x:Str):It:=⟨fun i _=>i<x.cps.size,fun i H v H'=>H'=H∧∃ c,x.cps[i]?=some c∧v=signV c,fun i _=>x.cps.size≤i⟩
theorem turn_str {P:Program} {w:World} {K:PySem.W.Frag} {tg:Expr} (n:String) (it:Addr) (x:Str) (t:Tok)
  (hn:n="str_ascii_iterator" ∨ n="str_iterator"):Turn P w K tg (Its x) [it] it (fun i h=>h.IsStrIter it n x t i) where
 mem:=by simp
 obj:=fun i h st b hb=>by
  have e:b=it:=by simpa using hb
  subst e
  obtain ⟨o,e,c,d⟩:=st
  exact ⟨o,e,fun v z=>by rw [d] at z; cases z⟩
 keep:=fun i h h' st k=>by
  obtain ⟨o,e,c,d⟩:=st
  exact ⟨o,k it (by simp) o e,c,d⟩
 item:=by
  intro X hP hw hK hc i pins s σ H E I hf st hg
  subst hP hw hK
  obtain ⟨f0,f1,f2,f3,f4,f5⟩:=hf it (by simp)
  have hg':i<x.cps.size:=hg
  have hx:x.cps[i]?=some x.cps[i]:=by simp [hg']
  have fin:∀ h',h'.IsStrIter it n x t (i+1)→Heap.SameBut it s.heap h'→∃ u,some (Value.str ⟨#[x.cps[i]]⟩ s.toks)=some u ∧
   wpAny (model X.prog X.w) X.A (letOwnedTupleGo tg (.ref it) u) (fun _ s2=>∃ x_1 H',Inv X pins σ H' s2∧RelV x_1 u∧(Its x).yld i H x_1 H'∧s2.heap.IsStrIter it n x t (i+1)∧∀ b∈[it],H' b=none) E { s with heap:=h',toks:=s.toks+1 }:=fun h' st' sb=>by
   have I1:Inv X pins σ H { s with heap:=h',toks:=s.toks+1 }:=I.turned (fun b o hb e=>(sb.2 b hb).trans e) f0 f1 f3 f4 f5
   obtain ⟨o,e,c,d⟩:=id st'
   refine ⟨_,rfl,go_of (s:={ s with heap:=h',toks:=s.toks+1 }) e c d (by rcases hn with rfl | rfl <;> decide) ⟨signV x.cps[i],H,I1,⟨_,rfl⟩,⟨rfl,_,hx,rfl⟩,st',fun b hb=>(hf b hb).1⟩⟩
  rcases hn with rfl | rfl
  ·exact wpAny_pyNext_ascii_item st hx fin
  ·exact wpAny_pyNext_wide_item st hx fin
 done:=by
  intro X hP hw hK hc i pins s σ H E I hf st hg
  subst hP hw hK
  obtain ⟨f0,f1,f2,f3,f4,f5⟩:=hf it (by simp)
  have hg':x.cps.size≤i:=hg
  have hx:x.cps[i]?=none:=by simp [hg']
  rcases hn with rfl | rfl
  ·exact wpAny_pyNext_ascii_end (I.ok.hd hc) st hx fun h' eb=>⟨rfl,I.turned (t':=s.toks) (fun b o hb e=>eb b o hb e) f0 f1 f3 f4 f5⟩
  ·exact wpAny_pyNext_wide_end (I.ok.hd hc) st hx fun h' eb=>⟨rfl,I.turned (t':=s.toks) (fun b o hb e=>eb b o hb e) f0 f1 f3 f4 f5⟩
 self:=fun _ _ _ _ _ st h=>by
  rcases hn with rfl | rfl
  ·exact wpAny_pyIter_striter_ascii st h
  ·exact wpAny_pyIter_striter_wide st h
section
variable {X:Cx} {tg:Expr}
noncomputable def iStr (tl:TE):TI:=fun σ H R=>tl σ H fun v H1=>∃ x,v=.str x∧R (Its x) H1
theorem pi_str {l:Expr} {tl:TE} (hl:PE X l tl):PI X tg l (iStr tl):=by
 intro pins s σ H R I h
 refine thn (hl pins s σ H _ I h) fun v s1 ⟨x,H1,I1,r1,q1⟩=>?_
 obtain ⟨z,e,q⟩:=q1
 subst e
 obtain ⟨t,rfl⟩:=r1
 have fp:∀ b∈[s1.heap.objs.size],FpOk X pins H1 b:=fun b hb=>by
  have e:b=s1.heap.objs.size:=by simpa using hb
  subst e
  exact I1.fpOk (Nat.le_refl _) (I1.hok.fresh (Nat.le_refl _))
 cases ha:z.cps.all (·<128)
 ·exact wpAny_pyIter_wide ha ⟨s1.heap.objs.size,[s1.heap.objs.size],_,_,H1,rfl,I1.kept (t':=s1.toks) fun b o e=>Heap.get?_push_of_some _ e,turn_str "str_iterator" _ z t (.inr rfl),⟨_,Heap.get?_push_size _ rfl,rfl,rfl⟩,fp,q⟩
 ·exact wpAny_pyIter_ascii ha ⟨s1.heap.objs.size,[s1.heap.objs.size],_,_,H1,rfl,I1.kept (t':=s1.toks) fun b o e=>Heap.get?_push_of_some _ e,turn_str "str_ascii_iterator" _ z t (.inl rfl),⟨_,Heap.get?_push_size _ rfl,rfl,rfl⟩,fp,q⟩
end

theorem comp_loop {prog:Program} {w:World} {A:Around} {R:Result→Shared→Prop} {s:Shared} {elt target iter:Expr} {ifs:List Expr} {scope:Scope} {pos:Pos} {it acc:Value} {env:Env} (I:Nat→Shared→Prop)
  (turn:∀ n s,I n s→wpAny (model prog w) A (pyNext it) (fun r s₁=>match r with
   | none=>R (.ok .next) s₁
   | some v=>wpAny (model prog w) A (letOwnedTupleGo target it v) (fun _ s₁'=>wpAny (model prog w) A (assign target env v) (fun _ s₂=>
     wpAny (model prog w) A (forIn ifs true fun c r=>if r=true then do let ok ← isTrue c env (eval c env); pure (ForInStep.yield ok) else pure (ForInStep.yield r)) (fun ok s₃=>
      if ok=true then wpAny (model prog w) A (eval elt env) (fun x s₄=>
       wpAny (model prog w) A (call (.builtin "list.append") [acc,x]) (fun _ s₅=>∃ m,m<n∧I m s₅) (fun _ _=>False) s₄) (fun _ _=>False) s₃
      else ∃ m,m<n∧I m s₃) (fun _ _=>False) s₂) (fun _ _=>False) s₁') (fun _ _=>False) s₁) (fun _ _=>False) s)
  (n:Nat) (h:I n s) :
  codeAny (model prog w) A (.compLoop (.ListComp elt [⟨target,iter,ifs,0⟩] scope pos) 0 it acc env) R s:=by
 refine codeAny_loop rfl I (fun n s hI=>?_) n h
 show wpAny _ A ((compTurn (.ListComp elt [⟨target,iter,ifs,0⟩] scope pos) 0 it acc env).onRaise (fun x=>do noteFrame x env; theTreesLotGoes x)) _ _ s
 refine wpAny_noted ?_
 rw [compTurn_list]
 refine wpAny_bind (wpAny_standAt (wpAny_bind (wpAny_mono (turn n s hI) (fun r s₁ h₁=>?_) fun _ _ h'=>h'.elim)))
 cases r with
 | none=>exact wpAny_pure h₁
 | some v=>
  refine wpAny_bind (wpAny_mono h₁ (fun _ s₁' h₁'=>?_) fun _ _ h'=>h'.elim)
  refine wpAny_bind (wpAny_mono h₁' (fun _ s₂ h₂=>wpAny_bind (wpAny_mono h₂ (fun ok s₃ h₃=>?_) fun _ _ h'=>h'.elim)) fun _ _ h'=>h'.elim)
  cases ok with
  | false=>exact wpAny_pure ⟨rfl,h₃⟩
  | true=>
   exact wpAny_bind (wpAny_bind (wpAny_mono h₃ (fun x s₄ h₄=>wpAny_bind (wpAny_mono h₄ (fun _ s₅ h₅=>wpAny_pure (wpAny_pure ⟨rfl,h₅⟩)) fun _ _ h'=>h'.elim)) fun _ _ h'=>h'.elim))

noncomputable def freeOf (scope:Scope):List Str:=(scope.names.filter fun x=>x.2==.free).map (·.1)
noncomputable def closOf (scope:Scope) (env:Env):List (Str×Addr):=(freeOf scope).foldl (fun cs n=>(n,(env.cells.lookup n).getD 0)::cs) []
theorem closureFor_eq {scope:Scope} {env:Env} (h:∀ n∈freeOf scope,∃ c,env.cells.lookup n=some c):closureFor scope env=pure (closOf scope env):=by
 have go:∀ (names:List (Str×NameKind)) (cs:List (Str×Addr)),(∀ n,(n,NameKind.free)∈names→∃ c,env.cells.lookup n=some c) →
   (forIn names cs fun (x:Str×NameKind) r=>(do
    let (name,kind):=x
    if kind==.free then
     let a ← cellOf env name
     pure (ForInStep.yield ((name,a)::r))
    else pure (ForInStep.yield r):Sem (ForInStep (List (Str×Addr)))))=pure (((names.filter fun x=>x.2==.free).map (·.1)).foldl (fun cs n=>(n,(env.cells.lookup n).getD 0)::cs) cs):=by
  intro names
  induction names with
  | nil=>intro cs _; rfl
  | cons x r ih=>
   intro cs hx
   obtain ⟨n,k⟩:=x
   rw [List.forIn_cons]
   by_cases hk:k=.free
   ·subst hk
    obtain ⟨c,hc⟩:=hx n (by simp)
    have e:cellOf env n=pure c:=by unfold cellOf; rw [hc]
    simp only [beq_self_eq_true,if_true,e,pure_bind,List.filter_cons,List.map_cons,List.foldl_cons]
    rw [ih _ fun m hm=>hx m (List.mem_cons_of_mem _ hm),hc]
    rfl
   ·have hb:(k==NameKind.free)=false:=by simpa using hk
    simp only [hb,Bool.false_eq_true,if_false,pure_bind,List.filter_cons]
    exact ih _ fun m hm=>hx m (List.mem_cons_of_mem _ hm)
 unfold closureFor
 have g:=go scope.names [] fun n hn=>h n (by unfold freeOf; exact List.mem_map.mpr ⟨(n,.free),List.mem_filter.mpr ⟨hn,by simp⟩,rfl⟩)
 refine (bind_congr (fun _=>rfl)).trans ?_
 exact (congrArg (·>>=fun r=>pure r) g).trans (by simp only [pure_bind]; rfl)
end L2
namespace L2
open PySem PySem.Spec PyProof.Rows

theorem clos_lookup {env:Env}:∀ (ns:List Str) (cs:List (Str×Addr)),(∀ n∈ns,∃ c,env.cells.lookup n=some c)→(∀ x c,cs.lookup x=some c→env.cells.lookup x=some c) →
  ∀ x c,(ns.foldl (fun cs n=>(n,(env.cells.lookup n).getD 0)::cs) cs).lookup x=some c→env.cells.lookup x=some c
 | [],cs,_,h=>h
 | n::r,cs,hn,h=>by
  refine clos_lookup r _ (fun m hm=>hn m (List.mem_cons_of_mem _ hm)) fun x c e=>?_
  rw [List.lookup_cons] at e
  cases q:(x==n) with
  | true=>
   rw [q] at e
   have q':x=n:=by simpa using q
   subst q'
   obtain ⟨c',hc⟩:=hn x List.mem_cons_self
   rw [hc] at e ⊢
   exact e
  | false=>rw [q] at e; exact h x c e
theorem clos_has {env:Env}:∀ (ns:List Str) (cs:List (Str×Addr)) (x:Str),(x∈ns∨∃ c,cs.lookup x=some c)→∃ c,(ns.foldl (fun cs n=>(n,(env.cells.lookup n).getD 0)::cs) cs).lookup x=some c
 | [],cs,x,h=>by
  rcases h with h | h
  ·simp at h
  ·exact h
 | n::r,cs,x,h=>by
  refine clos_has r _ x ?_
  rcases h with h | ⟨c,h⟩
  ·rcases List.mem_cons.mp h with rfl | h
   ·exact .inr ⟨(env.cells.lookup x).getD 0,by rw [List.lookup_cons]; simp⟩
   ·exact .inl h
  ·refine .inr ?_
   rw [List.lookup_cons]
   cases q:(x==n) with
   | true=>exact ⟨_,rfl⟩
   | false=>exact ⟨c,h⟩

structure BlkScope (scope:Scope):Prop where
 kind:scope.kind=.function
 cell:∀ y∈scope.names,y.2≠.cell
 loc:∀ y∈scope.names,y.2=.local→scope.names.lookup y.1=some .local

theorem relabel_kind {env:Env}:∀ {names:List (Str×NameKind)} {x:Str} {k:NameKind},(∀ y∈names,y.2≠.cell) →
  (names.map fun (n,k)=>if (k==NameKind.free&&env.scope.kind==.function&&env.kindOf n==some .cell) then (n,NameKind.cell) else (n,k)).lookup x=some k→(k=.cell∨k=.free)→(x,NameKind.free)∈names
 | [],_,_,_,h,_=>by simp at h
 | (n,k0)::r,x,k,hc,h,hk=>by
  have ih:=@relabel_kind env r x k fun y hy=>hc y (List.mem_cons_of_mem _ hy)
  have hq:List.lookup x ((if (k0==NameKind.free&&env.scope.kind==.function&&env.kindOf n==some .cell)=true then (n,NameKind.cell) else (n,k0))::_)=some k:=h
  have hk0:=hc (n,k0) List.mem_cons_self
  by_cases q:(k0==NameKind.free&&env.scope.kind==.function&&env.kindOf n==some .cell)=true
  ·rw [if_pos q,List.lookup_cons] at hq
   have hf:k0=.free:=by
    rw [Bool.and_eq_true,Bool.and_eq_true] at q
    simpa using q.1.1
   subst hf
   cases hx:x==n with
   | true=>
    have e:x=n:=by simpa using hx
    subst e
    exact List.mem_cons_self
   | false=>
    rw [hx] at hq
    exact List.mem_cons_of_mem _ (ih hq hk)
  ·rw [if_neg q,List.lookup_cons] at hq
   cases hx:x==n with
   | true=>
    rw [hx] at hq
    have e:x=n:=by simpa using hx
    subst e
    have e2:k0=k:=Option.some.inj hq
    subst e2
    rcases hk with z | z
    ·exact absurd z hk0
    ·rw [z]; exact List.mem_cons_self
   | false=>
    rw [hx] at hq
    exact List.mem_cons_of_mem _ (ih hq hk)

noncomputable def Cx.blk (X:Cx) (scope:Scope) (N':List Str) (C:Addr) (s₃:Shared) (H₃:Hp) (fp:List Addr):Cx:=
 { X with N:=N',s₀:=s₃,H₀:=H₃,env:=compEnvC scope (closOf scope X.env) C X.env,outer:=X.stack,stack:=X.stack,ex:=fp,fn:=fun _=>false,pn:=[],xe:=fun _ _=>False }

noncomputable def blkStart (nown:Nat) (js:List Nat) (σ:St):St:=List.replicate nown none++js.map fun j=>(σ[j]?).join
structure BlkNames (X:Cx) (scope:Scope) (N':List Str) (nown:Nat) (js:List Nat):Prop where
 len:N'.length=nown+js.length
 at':∀ k j,js[k]?=some j→X.N[j]?=N'[nown+k]?
 cel:∀ n∈freeOf scope,X.env.kindOf n=some .cell∨X.env.kindOf n=some .free
 fre:∀ k x,nown≤k→N'[k]?=some x→x∈freeOf scope∧(relabel scope X.env).names.lookup x≠some .local

theorem blk_start {X:Cx} {pins:List (Addr×Obj)} {σ:St} {H:Hp} {s₃:Shared} {h₁:Heap} {tk:Nat} {scope:Scope} {N':List Str} {nown:Nat} {js:List Nat} {fp:List Addr}
  (I:Inv X pins σ H s₃) (S:BlkScope scope) (B:BlkNames X scope N' nown js) (hfp:∀ b∈fp,FpOk X pins H b) (hlt:∀ b∈fp,b<s₃.heap.objs.size)
  (hn:h₁.Ns s₃.heap.objs.size (fun _=>none)) (hk:∀ b o,s₃.heap.get? b=some o→h₁.get? b=some o) :
  Inv (X.blk scope N' s₃.heap.objs.size s₃ H fp) [] (blkStart nown js σ) H { s₃ with heap:=h₁,toks:=tk }:=by
 have hcl:∀ n∈freeOf scope,∃ c,X.env.cells.lookup n=some c:=fun n hn=>I.ok.has n (B.cel n hn)
 have cl1:∀ x c,(closOf scope X.env).lookup x=some c→X.env.cells.lookup x=some c:=clos_lookup (freeOf scope) [] hcl fun x c e=>by simp at e
 refine ⟨⟨I.ok.mod,S.kind,I.ok.glob,I.ok.blt,Nat.le_refl _,fun x y c h1 h2=>I.ok.inj x y c (cl1 x c h1) (cl1 y c h2),fun x hx=>?_,fun x c h1 _=>?_,I.ok.hd,I.ok.frames,.inl rfl,fun b hb=>⟨Nat.ne_of_lt (hlt b hb),fun x c e=>(hfp b hb).2.2.2.2.1 x c (cl1 x c e)⟩,I.bs,Nat.le_trans I.ok.bsz I.sz,fun b o e hb=>?_,fun b hb z=>?_,I.stack,I.stkFree⟩,
  rfl,I.bare,Un.kept hk,⟨_,hn,fun i x v h1 h2 h3=>?_⟩,fun x c e=>?_,I.hok.fresh (Nat.le_refl _),fun x c e=>I.freeC x c (cl1 x c e),fun p hp=>?_,I.hok.kept hk,?_⟩
 ·have hx:(relabel scope X.env).names.lookup x=some .cell∨(relabel scope X.env).names.lookup x=some .free:=hx
  have m:(x,NameKind.free)∈scope.names:=by
   rcases hx with hx | hx
   ·exact relabel_kind S.cell hx (.inl rfl)
   ·exact relabel_kind S.cell hx (.inr rfl)
  exact clos_has (freeOf scope) [] x (.inl (List.mem_map.mpr ⟨(x,.free),List.mem_filter.mpr ⟨m,by simp⟩,rfl⟩))
 ·exact absurd h1 (by simp [Cx.blk])
 ·have f:=(hfp b hb).2.2.2.1
  rcases f with f | f
  ·exact I.ok.noex b o e f
  ·exact absurd (Nat.lt_of_lt_of_le (Heap.lt_size (I.ok.bs b o e).1) f) (Nat.lt_irrefl _)
 ·rcases List.mem_cons.mp (I.stkSub b z) with e | e
  ·exact (hfp b hb).2.1 e
  ·exact (hfp b hb).2.2.1 e
 ·-- the names' values
  have h1:N'[i]?=some x:=h1
  have hi:nown≤i:=by
   by_cases q:nown≤i
   ·exact q
   ·exfalso
    unfold blkStart at h2
    rw [List.getElem?_append_left (by rw [List.length_replicate]; omega),List.getElem?_replicate] at h2
    split at h2 <;> cases h2
  unfold blkStart at h2
  rw [List.getElem?_append_right (by rw [List.length_replicate]; exact hi),List.length_replicate,List.getElem?_map] at h2
  cases hj:js[i-nown]? with
  | none=>rw [hj] at h2; cases h2
  | some j=>
   rw [hj] at h2
   have h2:some ((σ[j]?).join)=some (some v):=h2
   have e1:σ[j]?=some (some v):=by
    cases q:σ[j]? with
    | none=>rw [q] at h2; cases h2
    | some z=>rw [q] at h2; cases z with
     | none=>cases h2
     | some z=>cases h2; rfl
   have e2:X.N[j]?=some x:=by rw [B.at' _ j hj,show nown+(i-nown)=i by omega]; exact h1
   obtain ⟨hfr,hnl⟩:=B.fre i x hi h1
   have kx:=B.cel x hfr
   obtain ⟨m,hm,hl⟩:=I.loc
   obtain ⟨u,r,l⟩:=hl j x v e2 e1 (by
    rcases kx with k | k
    ·exact .inr (.inl k)
    ·exact .inr (.inr k))
   refine ⟨u,r,.inr ⟨?_,?_⟩⟩
   ·have hv:(relabel scope X.env).names.lookup x=some .local∨(relabel scope X.env).names.lookup x=some .cell∨(relabel scope X.env).names.lookup x=some .free:=h3
    exact hv.resolve_left hnl
   ·rcases l with ⟨k,_⟩ | ⟨k,c,e,z⟩
    ·rcases kx with k' | k' <;> rw [k] at k' <;> cases k'
    ·obtain ⟨c',hc'⟩:=clos_has (env:=X.env) (freeOf scope) [] x (.inl hfr)
     have e3:=cl1 x c' hc'
     rw [e] at e3
     cases e3
     obtain ⟨o,ho,hd⟩:=z
     exact ⟨c,hc',o,hk c o ho,hd⟩
 ·obtain ⟨v,o,ho,hd⟩:=I.cell x c (cl1 x c e)
  exact ⟨v,o,hk c o ho,hd⟩
 ·exact absurd (show p∈([]:List (Addr×Obj)) from hp) (by simp)
 ·unfold blkStart
  show _=N'.length
  rw [List.length_append,List.length_replicate,List.length_map,B.len]

theorem Inv.back {X:Cx} {pins:List (Addr×Obj)} {σ σ':St} {H H':Hp} {s₃ s':Shared} {scope:Scope} {N':List Str} {C:Addr} {fp:List Addr} {pl:List (Addr×Obj)}
  (I:Inv X pins σ H s₃) (hfp:∀ b∈fp,FpOk X pins H b) (J:Inv (X.blk scope N' C s₃ H fp) pl σ' H' s'):Inv X pins σ H' s':=
 I.call' J.os J.base J.hok J.bare fun b hb=>⟨(hfp b hb).2.2.2.1,(hfp b hb).2.1,(hfp b hb).2.2.2.2.1,(hfp b hb).2.2.2.2.2⟩

noncomputable def PTs (X:Cx) (ifs:List Expr) (t:TT):Prop:=
 ∀ (pins:List (Addr×Obj)) (s:Shared) (σ:St) (H:Hp) (Q:Bool→Hp→Prop),Inv X pins σ H s→t σ H Q →
  wpAny (model X.prog X.w) X.A (forIn ifs true fun c r=>if r=true then do let ok ← isTrue c X.env (eval c X.env); pure (ForInStep.yield ok) else pure (ForInStep.yield r)) (TP X pins σ Q) X.xe s
noncomputable def tYes:TT:=fun _ H Q=>Q true H
theorem pts_nil {X:Cx}:PTs X [] tYes:=fun _ _ _ H _ I h=>wpAny_tests_nil ⟨H,I,h⟩
theorem pts_one {X:Cx} {c:Expr} {t:TT} (h:PT X c t):PTs X [c] t:=fun pins s σ H Q I q=>wpAny_tests_one (h pins s σ H Q I q)

noncomputable def tBlk (J:It) (D:Addr) (g:TG) (tc:TT) (te:TE) (R:Hp→Prop) (σ:St) (H:Hp):Prop:=
 ∃ W:Nat→Nat→St→Hp→Prop,(∃ m,W 0 m σ H)∧∀ i m σ H,W i m σ H →
  (J.stop i H∧R H)∨(J.go i H∧∃ N:St→Hp→Prop,(∀ σ' H',N σ' H'→∃ m',m'<m∧W (i+1) m' σ' H')∧∀ x H',J.yld i H x H'→g x σ H' fun σ2 H2=>tc σ2 H2 fun b H3=>
   if b=true then te σ2 H3 fun y H4=>∃ ys,H4 D=some (.lst ys)∧ys.length<sizeLine∧N σ2 (upd H4 D (.lst (ys++[y]))) else N σ2 H3)
noncomputable def tComp (wi:TI) (nown:Nat) (js:List Nat) (g:TG) (tc:TT) (te:TE):TE:=fun σ H Q=>
 wi σ H fun J H1=>∀ D,H1 D=none→tBlk J D g tc te (fun H2=>Q (.ref D) H2) (blkStart nown js σ) (upd H1 D (.lst []))

structure Blk (X:Cx) (scope:Scope) (N':List Str) (tg elt:Expr) (ifs:List Expr) (g:TG) (tc:TT) (te:TE):Prop where
 tg:∀ C s₃ H₃ fp,PG (X.blk scope N' C s₃ H₃ fp) tg g
 tc:∀ C s₃ H₃ fp,PTs (X.blk scope N' C s₃ H₃ fp) ifs tc
 te:∀ C s₃ H₃ fp,PE (X.blk scope N' C s₃ H₃ fp) elt te

theorem comp_block {X:Cx} {tg elt iter:Expr} {ifs:List Expr} {scope:Scope} {pos:Pos} {N':List Str} {nown:Nat} {js:List Nat} {g:TG} {tc:TT} {te:TE} {E:Value→Shared→Prop}
  (hc:X.calm=true) (S:BlkScope scope) (B:BlkNames X scope N' nown js) (K:Blk X scope N' tg elt ifs g tc te)
  {pins:List (Addr×Obj)} {σ:St} {H2:Hp} {s₂:Shared} {it:Addr} {fp:List Addr} {tn:Nat→Heap→Prop} {J:It} {Q:VK} {RR:Value→Addr→Result→Shared→Prop}
  (I2:Inv X pins σ H2 s₂) (T:Turn X.prog X.w X.K tg J fp it tn) (st2:tn 0 s₂.heap) (f2:∀ b∈fp,FpOk X pins H2 b)
  (h:∀ D,H2 D=none→tBlk J D g tc te (fun H'=>Q (.ref D) H') (blkStart nown js σ) (upd H2 D (.lst [])))
  (hRR:∀ (D C:Addr) (H':Hp) (s':Shared),Inv X pins σ H' s'→(∃ m,s'.heap.Ns C m)→(∀ h',Heap.SameBut C s'.heap h'→Inv X pins σ H' { s' with heap:=h' })→FpOk X pins H' C→Q (.ref D) H'→RR (.ref D) C (.ok .next) s') :
  wpAny (model X.prog X.w) X.A (newList []) (fun acc s₃=>wpAny (model X.prog X.w) X.A (newFunctionEnv scope X.env.globals (closOf scope X.env) [] X.env.qual none .none (some X.env)) (fun cenv s₄=>
   codeAny (model X.prog X.w) X.A (.compStart (.ListComp elt [⟨tg,iter,ifs,0⟩] scope pos) 0 (.ref it) acc { cenv with scope:=relabel scope X.env }) (RR acc cenv.locals) s₄) E s₃) E s₂:=by
 have hD:H2 s₂.heap.objs.size=none:=I2.hok.fresh (Nat.le_refl _)
 have k3:∀ b o,s₂.heap.get? b=some o→(s₂.heap.push { cls:=.type "list",dict:=none,data:=.seq ([]:List Value).toArray }).get? b=some o:=fun b o e=>Heap.get?_push_of_some _ e
 have I3:Inv X pins σ (upd H2 s₂.heap.objs.size (.lst [])) { s₂ with heap:=s₂.heap.push { cls:=.type "list",dict:=none,data:=.seq ([]:List Value).toArray } }:=
  I2.laid (t':=s₂.toks) k3 (Nat.le_refl _) ⟨Nat.zero_le _,[],0,.nil,Heap.get?_push_size _ rfl⟩
 have lt2:∀ b∈fp,b<s₂.heap.objs.size:=fun b hb=>let ⟨o,e,_⟩:=T.obj 0 _ st2 b hb; Heap.lt_size e
 have f3:∀ b∈fp,FpOk X pins (upd H2 s₂.heap.objs.size (.lst [])) b:=fun b hb=>⟨by rw [upd_ne (Nat.ne_of_lt (lt2 b hb))]; exact (f2 b hb).1,(f2 b hb).2⟩
 have st3:=T.keep 0 _ _ st2 fun b _ o e=>k3 b o e
 obtain ⟨W,⟨m0,w0⟩,turn⟩:=h _ hD
 refine wpAny_newObj_type (wpAny_newFunctionEnv S.cell (by intro y hy; simp at hy) (fun h₁ hns₁ hsb₁=>?_) S.kind)
 dsimp only at hns₁ hsb₁ ⊢
 generalize hs3:({ s₂ with heap:=s₂.heap.push { cls:=.type "list",dict:=none,data:=.seq ([]:List Value).toArray } }:Shared)=s₃ at I3
 have h3:s₂.heap.push { cls:=.type "list",dict:=none,data:=.seq ([]:List Value).toArray }=s₃.heap:=by rw [← hs3]
 rw [h3] at hns₁ hsb₁ st3 ⊢
 have k4:∀ b o,s₃.heap.get? b=some o→h₁.get? b=some o:=fun b o e=>hsb₁.extBut b o (Nat.ne_of_lt (Heap.lt_size e)) (Heap.get?_push_of_some _ e)
 have hns:h₁.Ns s₃.heap.objs.size (fun _=>none):=by
  obtain ⟨o,es,ep,e,d,k,r⟩:=hns₁
  exact ⟨o,es,ep,e,d,k,fun n=>by rw [r n]; rfl⟩
 have lt3:∀ b∈fp,b<s₃.heap.objs.size:=fun b hb=>let ⟨o,e,_⟩:=T.obj 0 _ st3 b hb; Heap.lt_size e
 have J0:∀ tk,Inv (X.blk scope N' s₃.heap.objs.size s₃ (upd H2 s₂.heap.objs.size (.lst [])) fp) [] (blkStart nown js σ) (upd H2 s₂.heap.objs.size (.lst [])) { s₃ with heap:=h₁,toks:=tk }:=fun tk=>blk_start I3 S B f3 lt3 hns k4
 have loop:∀ s4:Shared,s4={ s₃ with heap:=h₁,toks:=s₂.toks+([]:List (Str×Value)).length } →
   codeAny (model X.prog X.w) X.A (.compLoop (.ListComp elt [⟨tg,iter,ifs,0⟩] scope pos) 0 (.ref it) (.ref s₂.heap.objs.size) (compEnvC scope (closOf scope X.env) s₃.heap.objs.size X.env)) (RR (.ref s₂.heap.objs.size) s₃.heap.objs.size) s4:=by
  rintro s4 rfl
  have Y:∀ b∈fp,FpOk (X.blk scope N' s₃.heap.objs.size s₃ (upd H2 s₂.heap.objs.size (.lst [])) fp) [] (upd H2 s₂.heap.objs.size (.lst [])) b:=fun b hb=>by
   have F:=f3 b hb
   refine ⟨F.1,Nat.ne_of_lt (lt3 b hb),fun z=>?_,.inl hb,(J0 0).ok.exf b hb |>.2,fun p hp=>absurd (show p∈([]:List (Addr×Obj)) from hp) (by simp)⟩
   exact (J0 0).ok.exfs b hb z
  have stat:∀ {H':Hp},(∀ b∈fp,H' b=none)→∀ b∈fp,FpOk (X.blk scope N' s₃.heap.objs.size s₃ (upd H2 s₂.heap.objs.size (.lst [])) fp) [] H' b:=fun hn b hb=>⟨hn b hb,(Y b hb).2⟩
  refine comp_loop (fun n s'=>∃ i σ' H',Inv (X.blk scope N' s₃.heap.objs.size s₃ (upd H2 s₂.heap.objs.size (.lst [])) fp) [] σ' H' s'∧tn i s'.heap∧(∀ b∈fp,H' b=none)∧W i n σ' H') ?_ m0
   ⟨0,_,_,J0 _,T.keep 0 _ _ st3 fun b _ o e=>k4 b o e,fun b hb=>(f3 b hb).1,w0⟩
  rintro n s5 ⟨i,σ5,H5,I5,st5,fr5,w5⟩
  rcases turn i n σ5 H5 w5 with ⟨stop,qn⟩ | ⟨go,N,hN,step⟩
  ·refine thn (T.done (X.blk scope N' s₃.heap.objs.size s₃ (upd H2 s₂.heap.objs.size (.lst [])) fp) rfl rfl rfl hc i [] s5 σ5 H5 _ I5 (stat fr5) st5 stop) fun r s6 ⟨hr,I6⟩=>?_
   subst hr
   have I6':Inv X pins σ H5 s6:=I3.back f3 I6
   have hC:FpOk X pins H5 s₃.heap.objs.size:=I3.fpOk (Nat.le_refl _) I6.free
   refine hRR _ _ H5 s6 I6' (let ⟨m,hm,_⟩:=I6.loc; ⟨m,hm⟩) (fun h' sb=>?_) hC qn
   exact I6'.turned (t':=s6.toks) (fun b o hb e=>(sb.2 b hb).trans e) hC.1 hC.2.1 hC.2.2.2.1 hC.2.2.2.2.1 hC.2.2.2.2.2
  ·refine thn (T.item (X.blk scope N' s₃.heap.objs.size s₃ (upd H2 s₂.heap.objs.size (.lst [])) fp) rfl rfl rfl hc i [] s5 σ5 H5 _ I5 (stat fr5) st5 go) fun r s6 ⟨u,hr,h6⟩=>?_
   subst hr
   refine thn h6 fun _ s7 ⟨x,H7,I7,r7,y7,st7,fr7⟩=>?_
   have I7':=I7.pinned (stat fr7) (T.obj _ _ st7)
   have again:∀ {σ9:St} {H9:Hp} {s9:Shared},Inv (X.blk scope N' s₃.heap.objs.size s₃ (upd H2 s₂.heap.objs.size (.lst [])) fp) ([]++pinsAt fp s7.heap) σ9 H9 s9→N σ9 H9 →
     ∃ m,m<n∧∃ i σ' H',Inv (X.blk scope N' s₃.heap.objs.size s₃ (upd H2 s₂.heap.objs.size (.lst [])) fp) [] σ' H' s9∧tn i s9.heap∧(∀ b∈fp,H' b=none)∧W i m σ' H':=fun {σ9 H9 s9} I9 n9=>by
    obtain ⟨m',hm,w9⟩:=hN σ9 H9 n9
    refine ⟨m',hm,i+1,σ9,H9,I9.unpinned,T.keep _ _ _ st7 fun b hb o e=>(I9.pin (b,o) (List.mem_append_right _ (List.mem_append_right _ (mem_pinsAt hb e)))).1,fun b hb=>?_,w9⟩
    obtain ⟨o,e,d⟩:=T.obj _ _ st7 b hb
    exact (I9.pin (b,o) (List.mem_append_right _ (List.mem_append_right _ (mem_pinsAt hb e)))).2.1
   refine thn (K.tg _ _ _ _ _ s7 σ5 H7 x u _ I7' r7 (step x H7 y7)) fun _ s8 ⟨σ8,H8,I8,q8⟩=>?_
   refine thn (K.tc _ _ _ _ _ s8 σ8 H8 _ I8 q8) fun ok s9 ⟨H9,I9,q9⟩=>?_
   cases ok with
   | false=>exact again I9 q9
   | true=>
    rw [if_pos rfl] at q9 ⊢
    refine thn (K.te _ _ _ _ _ s9 σ8 H9 _ I9 q9) fun y s10 ⟨yv,H10,I10,r10,ys,e10,l10,q10⟩=>?_
    refine thn (mt_append _ s10 σ8 H10 (.ref s₂.heap.objs.size) [yv] (.ref s₂.heap.objs.size) [y] (fun v H'=>N σ8 H') I10 rfl (.cons r10 .nil) ⟨_,ys,yv,rfl,rfl,e10,l10,q10⟩) fun _ s11 ⟨_,H11,I11,_,q11⟩=>again I11 q11
 have fin:=loop _ rfl
 have e4:({ s₂ with heap:=h₁,toks:=s₂.toks+([]:List (Str×Value)).length }:Shared)={ s₃ with heap:=h₁,toks:=s₂.toks+([]:List (Str×Value)).length }:=by rw [← hs3]
 rw [← e4] at fin
 refine codeAny_compStart_list fin (T.self _ 0 _ _ _ ?_ fin)
 exact T.keep 0 _ _ st3 fun b _ o e=>k4 b o e

section
variable {X:Cx} {tg elt iter:Expr} {ifs:List Expr} {scope:Scope} {pos:Pos} {N':List Str} {nown:Nat} {js:List Nat} {wi:TI} {g:TG} {tc:TT} {te:TE}
theorem pe_comp (hc:X.calm=true) (S:BlkScope scope) (B:BlkNames X scope N' nown js) (K:Blk X scope N' tg elt ifs g tc te) (hi:PI X tg iter wi)
  (hs:∀ x,foldedSetIterable iter X.env x=pure x:=by intro _; rfl):PE X (.ListComp elt [⟨tg,iter,ifs,0⟩] scope pos) (tComp wi nown js g tc te):=by
 intro pins s σ H Q I h
 have hcl:closureFor scope X.env=pure (closOf scope X.env):=closureFor_eq fun n hn=>I.ok.has n (B.cel n hn)
 rw [eval_ListComp]
 refine wpAny_comprehension_free (use:=none) rfl hs hcl S.kind S.loc (thn (hi pins s σ H _ I h) fun xv s₁ h₁=>thn h₁ fun itv s₂ h₂=>?_)
 obtain ⟨it,fp,tn,J,H2,e,I2,T,st2,f2,q⟩:=h₂
 subst e
 refine comp_block (RR:=fun acc C=>compPost (model X.prog X.w) X.A X.xe none (EP X pins σ Q) acc C) hc S B K I2 T st2 f2 q fun D C H' s' I' hm k hC qq=>?_
 obtain ⟨m,hm⟩:=hm
 exact ⟨m,hm,fun h' sb=>⟨.ref D,H',k h' sb,rfl,qq⟩⟩
theorem ps_setcomp {i:Nat} {x:Str} {px spos:Pos} (hsw:swapsWith (.ListComp elt [⟨tg,iter,ifs,0⟩] scope pos) (some (.Name x px)) spos.line X.env=pure true) (hN:X.N.Nodup) (hi':X.N[i]?=some x) (hx:X.env.scope.names.lookup x=some .local)
  (hc:X.calm=true) (S:BlkScope scope) (B:BlkNames X scope N' nown js) (K:Blk X scope N' tg elt ifs g tc te) (hi:PI X tg iter wi)
  (hs:∀ x,foldedSetIterable iter X.env x=pure x:=by intro _; rfl):PS X (.Assign [.Name x px] (.ListComp elt [⟨tg,iter,ifs,0⟩] scope pos) spos) (tAsg (tComp wi nown js g tc te) (gName i)):=by
 intro pins s σ H D I h
 have hcl:closureFor scope X.env=pure (closOf scope X.env):=closureFor_eq fun n hn=>I.ok.has n (B.cel n hn)
 rw [exec_Assign_Name_used _ _ _ _ hsw]
 refine wpAny_bind (wpAny_standAt (wpAny_bind ?_))
 show wpAny _ _ (do let _ ← comprehension (.ListComp elt [⟨tg,iter,ifs,0⟩] scope pos) scope X.env _ (newList []) false (eval iter X.env) (some (assign (.Name x px) X.env))) _ _ s
 refine wpAny_bind (wpAny_mono (wpAny_comprehension_free (use:=some (assign (.Name x px) X.env)) (Q:=fun _ s'=>SP X pins D .next s') rfl hs hcl S.kind S.loc (thn (hi pins s σ H _ I h) fun xv s₁ h₁=>thn h₁ fun itv s₂ h₂=>?_))
  (fun _ s' hq=>wpAny_pure (wpAny_pure hq)) fun _ _ e=>e)
 obtain ⟨it,fp,tn,J,H2,e,I2,T,st2,f2,q⟩:=h₂
 subst e
 refine comp_block (RR:=fun acc C=>compPost (model X.prog X.w) X.A X.xe (some (assign (.Name x px) X.env)) (fun _ s'=>SP X pins D .next s') acc C) (Q:=fun v H'=>D.nx (σ.set i (some v)) H') hc S B K I2 T st2 f2 q fun Da C H' s' I' hm k hC qq=>?_
 show wpAny _ _ (assign (.Name x px) X.env (.ref Da)) _ _ _
 refine wpAny_assign_Name (store_ok2 I' hN hi' (.inl hx) (v:=.ref Da) rfl (fun s'' I'' ⟨a,sb,ha⟩=>?_) (.inr hx))
 have hCa:C≠a:=by
  rcases ha with rfl | ha
  ·exact hC.2.1
  ·exact fun z=>hC.2.2.2.2.1 x a ha z.symm
 obtain ⟨m,hm⟩:=hm
 refine ⟨m,hm.sameBut sb hCa,fun h' sb'=>⟨_,H',?_,qq⟩⟩
 exact I''.turned (t':=s''.toks) (fun b o hb e=>(sb'.2 b hb).trans e) hC.1 hC.2.1 hC.2.2.2.1 hC.2.2.2.2.1 hC.2.2.2.2.2
end

theorem blk_list {K:PySem.W.Frag} {a D:Addr} {xs:List V} {g:TG} {tc:TT} {te:TE} {R:Hp→Prop} {σ:St} {H:Hp} (Pv:Nat→St→Hp→Prop) (h0:Pv 0 σ H)
  (hl:∀ i σ H,i≤xs.length→Pv i σ H→SqL K H a xs)
  (hs:∀ i x σ H,xs[i]?=some x→Pv i σ H→g x σ H fun σ2 H2=>tc σ2 H2 fun b H3=>if b=true then te σ2 H3 fun y H4=>∃ ys,H4 D=some (.lst ys)∧ys.length<sizeLine∧Pv (i+1) σ2 (upd H4 D (.lst (ys++[y]))) else Pv (i+1) σ2 H3)
  (hd:∀ σ H,Pv xs.length σ H→R H):tBlk (Itl K a) D g tc te R σ H:=by
 refine ⟨fun i m σ H=>m=xs.length-i∧i≤xs.length∧Pv i σ H,⟨xs.length,by simp,Nat.zero_le _,h0⟩,?_⟩
 rintro i m σ H ⟨rfl,hi,p⟩
 have q:=hl i σ H hi p
 by_cases hlt:i<xs.length
 ·refine .inr ⟨⟨xs,xs[i],q,by simp [hlt]⟩,Pv (i+1),fun σ' H' p'=>⟨xs.length-(i+1),by omega,rfl,hlt,p'⟩,fun x H' y=>?_⟩
  obtain ⟨e,y⟩:=y
  subst e
  exact hs i x σ _ (y xs q) p
 ·have e:i=xs.length:=by omega
  subst e
  exact .inl ⟨⟨xs,q,Nat.le_refl _⟩,hd σ H p⟩
theorem blk_range {lo:Int} {n:Nat} {D:Addr} {g:TG} {tc:TT} {te:TE} {R:Hp→Prop} {σ:St} {H:Hp} (Pv:Nat→St→Hp→Prop) (h0:Pv 0 σ H)
  (hs:∀ i σ H,i<n→Pv i σ H→g (.int (lo+i)) σ H fun σ2 H2=>tc σ2 H2 fun b H3=>if b=true then te σ2 H3 fun y H4=>∃ ys,H4 D=some (.lst ys)∧ys.length<sizeLine∧Pv (i+1) σ2 (upd H4 D (.lst (ys++[y]))) else Pv (i+1) σ2 H3)
  (hd:∀ σ H,Pv n σ H→R H):tBlk (Itr lo n) D g tc te R σ H:=by
 refine ⟨fun i m σ H=>m=n-i∧i≤n∧Pv i σ H,⟨n,by simp,Nat.zero_le _,h0⟩,?_⟩
 rintro i m σ H ⟨rfl,hi,p⟩
 by_cases hlt:i<n
 ·refine .inr ⟨hlt,Pv (i+1),fun σ' H' p'=>⟨n-(i+1),by omega,rfl,hlt,p'⟩,fun x H' y=>?_⟩
  obtain ⟨e,y⟩:=y
  subst e y
  exact hs i σ _ hlt p
 ·have e:i=n:=by omega
  subst e
  exact .inl ⟨Nat.le_refl _,hd σ H p⟩
theorem blk_str {x:Str} {D:Addr} {g:TG} {tc:TT} {te:TE} {R:Hp→Prop} {σ:St} {H:Hp} (Pv:Nat→St→Hp→Prop) (h0:Pv 0 σ H)
  (hs:∀ i c σ H,x.cps[i]?=some c→Pv i σ H→g (signV c) σ H fun σ2 H2=>tc σ2 H2 fun b H3=>if b=true then te σ2 H3 fun y H4=>∃ ys,H4 D=some (.lst ys)∧ys.length<sizeLine∧Pv (i+1) σ2 (upd H4 D (.lst (ys++[y]))) else Pv (i+1) σ2 H3)
  (hd:∀ σ H,Pv x.cps.size σ H→R H):tBlk (Its x) D g tc te R σ H:=by
 refine ⟨fun i m σ H=>m=x.cps.size-i∧i≤x.cps.size∧Pv i σ H,⟨x.cps.size,by simp,Nat.zero_le _,h0⟩,?_⟩
 rintro i m σ H ⟨rfl,hi,p⟩
 by_cases hlt:i<x.cps.size
 ·refine .inr ⟨hlt,Pv (i+1),fun σ' H' p'=>⟨x.cps.size-(i+1),by omega,rfl,hlt,p'⟩,fun v H' y=>?_⟩
  obtain ⟨e,c,hc,rfl⟩:=y
  subst e
  exact hs i c σ _ hc p
 ·have e:i=x.cps.size:=by omega
  subst e
  exact .inl ⟨Nat.le_refl _,hd σ H p⟩
end L2
namespace L2
open PySem PySem.Spec PyProof.Rows

section
variable {X:Cx} {e:Expr} {te:TE} {lo hi:Option Expr} {tl th:TO} {pos p2:Pos}
end

section
variable {X:Cx}
theorem vals_bl:∀ {bs:List Bool} {us:List Value},Vals (bs.map V.bl) us→∀ (i:Nat) (v:Value),us[i]?=some v→∃ b,bs[i]?=some b∧v=.bool b
 | [],_,.nil,_,_,e=>by simp at e
 | b::bs,_,.cons r rr,0,v,e=>by
  cases r
  simp at e
  exact ⟨b,rfl,e.symm⟩
 | b::bs,_,.cons r rr,i+1,v,e=>by
  obtain ⟨c,h1,h2⟩:=vals_bl (bs:=bs) rr i v (by simpa using e)
  exact ⟨c,by simpa using h1,h2⟩
inductive AllB (K:PySem.W.Frag) (xs:List V) (H:Hp) (Q:VK):Prop
 | mk (a:Addr) (bs:List Bool) (h0_:xs=[.ref a]) (h1_:SqL K H a (bs.map V.bl)) (h2_:Q (.bl (bs.all id)) H)
theorem call_allB (hc:X.calm=true):CallR X (.builtin "all") (AllB X.K):=by
 intro pins s σ H xs us Q I r h
 obtain ⟨a,bs,rfl,hs,q⟩:=h
 obtain ⟨u,rfl,rx⟩:=vals1 r
 cases rx
 obtain ⟨its,rv,pl,hz⟩:=I.list hs
 have hl:=pl.isList
 have hlt:a<s.heap.objs.size:=by obtain ⟨_,e,_⟩:=hl; exact Heap.lt_size e
 have hlen:its.length=bs.length:=by rw [← rv.length,List.length_map]
 refine call_all_walk (wpAny_pyIter_list hl ⟨s.heap.objs.size,[s.heap.objs.size,a],[s.heap.objs.size],its.toArray.size,_,_,fun i=>(bs[i]?).getD true,rfl,
  Walks.list (A:=X.A.in1) (I.ok.hd hc) _ a (Nat.ne_of_lt hlt) its.toArray,⟨⟨_,Heap.get?_push_size _ rfl,rfl,rfl⟩,hl.push _⟩,fun i v s' Q' E' hP hQ=>?_,fun h' tk hk=>?_⟩)
 ·obtain ⟨b,eb,rfl⟩:=vals_bl rv i v (by simpa using hP)
  simp only [eb,Option.getD_some] at hQ
  exact wpAny_truthy_bool hQ
 ·have ea:((List.range its.toArray.size).all fun i=>(bs[i]?).getD true)=bs.all id:=by
   rw [List.size_toArray,hlen]
   exact LSm.range_all bs
  rw [ea]
  exact ⟨.bl (bs.all id),H,I.kept (LSm.kept_iter hk),rfl,q⟩
inductive IsiAt (K:PySem.W.Frag) (xs:List V) (H:Hp) (Q:VK):Prop
 | mk (x:_) (c:_) (cv:_) (t:_) (b:_) (h0_:xs=[x,c]) (h1_:(∀ u,RelV c u→u=cv)) (h2_:TyOf K H x t) (h3_:PySem.W.kitOne K t cv=some b) (h4_:Q (.bl b) H)
theorem call_isi:CallR X (.builtin "isinstance") (IsiAt X.K):=by
 intro pins s σ H xs us Q I r h
 obtain ⟨x,c,cv,t,b,rfl,hc,ty,e,q⟩:=h
 obtain ⟨u,w',rfl,rx,rc⟩:=vals2 r
 have ec:=hc w' rc
 subst ec
 exact isinst_ok I rx ty e fun tk=>⟨.bl b,H,I.tok tk,rfl,q⟩
theorem rel_ty {T:String}:∀ u,RelV (.ty T) u→u=.type T:=fun _ r=>r
theorem rel_ref {a:Addr}:∀ u,RelV (.ref a) u→u=.ref a:=fun _ r=>r
end

noncomputable def tCut (P:St→Hp→Prop) (t u:TS):TS:=fun D σ H=>t { D with nx:=P } σ H∧∀ σ' H',P σ' H'→u D σ' H'
theorem pss_cut {X:Cx} {st:Stmt} {rest:List Stmt} {t u:TS} (P:St→Hp→Prop) (h1:PS X st t) (h2:PSs X rest u):PSs X (st::rest) (tCut P t u):=by
 intro pins s σ H D I h
 obtain ⟨ht,hu⟩:=h
 refine wpAny_execs_cons (thn (h1 pins s σ H { D with nx:=P } I ht) fun f s1 q=>?_)
 cases f with
 | next=>
  obtain ⟨σ',H',I',q⟩:=q
  exact h2 pins s1 σ' H' D I' (hu σ' H' q)
 | ret v=>exact q
 | brk=>exact q
 | cont=>exact q
end L2
namespace L2
open PySem PySem.Spec PyProof.Rows
namespace Bo
theorem isinstance:bootBuiltins "isinstance" = some (.builtin "isinstance"):=by decide +kernel
theorem str:bootBuiltins "str" = some (.type "str"):=by decide +kernel
theorem int:bootBuiltins "int" = some (.type "int"):=by decide +kernel
theorem list:bootBuiltins "list" = some (.type "list"):=by decide +kernel
theorem set:bootBuiltins "set" = some (.type "set"):=by decide +kernel
theorem all:bootBuiltins "all" = some (.builtin "all"):=by decide +kernel
theorem len:bootBuiltins "len" = some (.builtin "len"):=by decide +kernel
theorem sorted:bootBuiltins "sorted" = some (.builtin "sorted"):=by decide +kernel
theorem enumerate:bootBuiltins "enumerate" = some (.type "enumerate"):=by decide +kernel
end Bo
noncomputable def relabelN (scope sc:Scope):List (Str×NameKind):=scope.names.map fun (n,k)=>if (k==.free&&sc.kind==.function&&sc.names.lookup n==some .cell) then (n,.cell) else (n,k)
noncomputable def blkOk (sc scope:Scope) (N N':List Str) (nown:Nat) (js:List Nat):Bool:=
 decide (N'.length=nown+js.length)&&(List.range js.length).all (fun k=>decide (N[js.getD k 0]?=N'[nown+k]?))
  && (freeOf scope).all (fun n=>decide (sc.names.lookup n=some .cell)||decide (sc.names.lookup n=some .free))
  && (List.range js.length).all (fun k=>match N'[nown+k]? with | some x=>decide (x∈freeOf scope)&&decide ((relabelN scope sc).lookup x≠some .local) | none=>false)
theorem blkNames {X:Cx} {scope:Scope} {N':List Str} {nown:Nat} {js:List Nat} (sc:Scope) (N:List Str) (hsc:X.env.scope=sc) (hN:X.N=N) (h:blkOk sc scope N N' nown js=true):BlkNames X scope N' nown js:=by
 subst hsc hN
 unfold blkOk at h
 rw [Bool.and_eq_true,Bool.and_eq_true,Bool.and_eq_true] at h
 obtain ⟨⟨⟨h1,h2⟩,h3⟩,h4⟩:=h
 have h1:=of_decide_eq_true h1
 refine ⟨h1,fun k j e=>?_,fun n hn=>?_,fun k x hk e=>?_⟩
 ·have hk:k<js.length:=(List.getElem?_eq_some_iff.mp e).1
  have q:=of_decide_eq_true (List.all_eq_true.mp h2 k (List.mem_range.mpr hk))
  have ej:js.getD k 0=j:=by rw [List.getD_eq_getElem?_getD,e]; rfl
  rw [ej] at q
  exact q
 ·have q:=List.all_eq_true.mp h3 n hn
  rw [Bool.or_eq_true] at q
  exact q.imp (fun z=>of_decide_eq_true z) fun z=>of_decide_eq_true z
 ·have hl:k<N'.length:=(List.getElem?_eq_some_iff.mp e).1
  have q:=List.all_eq_true.mp h4 (k-nown) (List.mem_range.mpr (by omega))
  have ek:nown+(k-nown)=k:=by omega
  rw [ek,e] at q
  have q':(decide (x∈freeOf scope)&&decide ((relabelN scope X.env.scope).lookup x≠some .local))=true:=q
  rw [Bool.and_eq_true] at q'
  exact ⟨of_decide_eq_true q'.1,of_decide_eq_true q'.2⟩

noncomputable def isStar:Expr→Bool
 | .Starred ..=>true
 | _=>false
theorem starEach_plain {e:Expr} {es:List Expr} {env:Env} (h:isStar e=false):starEach (e::es) env=(false,eval e env)::starEach es env:=by
 cases e <;> first | rfl | cases h
theorem pac {X:Cx} {e:Expr} {es:List Expr} {te:TE} {t:TA} (ha:PE X e te) (hr:PA X es t) (hs:isStar e=false:=by rfl):PA X (e::es) (tCons te t):=pa_cons ha hr (starEach_plain hs)

end L2
namespace L2
open PySem
section
variable {X:Cx} {D:Ends} {s1 s2 s3 s4 s5:Stmt} {rest:List Stmt} {t1 t2 t3 t4 t5:TS} {J:St→Hp→Prop}
end
end L2
namespace L2
open PySem PySem.Spec PyProof.Rows

inductive CXE (P:Program) (w:World) (outer:List Env) (H:Hp) (s:Shared) (E:XK) (ev:Value) (s':Shared):Prop
 | mk (e t:Addr) (cls:Value) (vs:List Value) (H':Hp) (B:Heap) (h1:ev=.ref e) (h2:s'.os=s.os) (h3:AllBare s'.gens) (h4:Un (frs outer) [] H H' s.heap s'.heap) (h5:HOk P w H' s'.heap)
  (h6:Heap.FlyingW B outer e cls (.ref t) s'.heap) (h7:s'.heap.TupAt t vs) (h8:B.get? t=none)
  (h9:∀ b o,s.heap.get? b=some o→H b=none→b∉frs outer→B.get? b=some o) (h10:∀ b u,H' b=some u→∃ o,B.get? b=some o)
  (h11:∀ b o,s.heap.get? b=some o→b∉frs outer→∃ o',B.get? b=some o') (h12:E cls none H')
theorem HOk.inB {P:Program} {w:World} {H:Hp} {h h' B:Heap} (x:HOk P w H h) (k:B.StaysIn h) (k':B.StaysIn h') (t:∀ b u,H b=some u→∃ o,B.get? b=some o):HOk P w H h':=fun a o e=>by
 refine (x a o e).stay (fun b u hb q=>?_) (fun _ q=>q) fun _ _ q=>q
 have hs:∃ v,H b=some v:=by
  rcases hb with rfl | hb
  ·exact ⟨o,e⟩
  ·exact ⟨_,hb⟩
 obtain ⟨v,hv⟩:=hs
 obtain ⟨o',ho⟩:=t b v hv
 have:=k b o' ho
 rw [q] at this
 cases this
 exact k' b u ho
structure Cx.Body (X:Cx) (E:XK):Prop where
 xe:X.xe=fun ev s'=>wpAny (model X.prog X.w) X.A (leaving X.env ev) (fun _ s''=>CXE X.prog X.w X.outer X.H₀ X.s₀ E ev s'') (fun ev' s''=>CXE X.prog X.w X.outer X.H₀ X.s₀ E ev' s'') s'
 stk:X.stack=X.env::X.outer
 frm:X.env.frame=some X.env.locals
 ex:X.ex=[]
theorem body_of {P:Program} {w:World} {K:PySem.W.Frag} {mg:Str→Option Value} {base:Heap} {N:List Str} {qual:Str} {scope:Scope} {f:Addr} {cd:Value} {A:Around} {outer:List Env} {s:Shared} {H:Hp} {E:XK} :
  (cxOf (CXE P w) P w K mg base N qual scope f cd A outer s H E).Body E:=⟨rfl,rfl,rfl,rfl⟩
section
variable {X:Cx} {E:XK}
theorem Cx.Body.stkFrs (D:X.Body E):frs X.stack=X.env.locals::X.fs:=by
 rw [D.stk]
 show List.filterMap _ (X.env::X.outer)=_
 rw [List.filterMap_cons,D.frm]
 rfl
theorem Cx.Body.passes (D:X.Body E) {E':XK} (hE:∀ c d H',E' c d H'→E c d H'):Passes (CXE X.prog X.w) X E':=by
 intro pins σ H s ev s' I h
 obtain ⟨e,t,cls,vs,H',B,rfl,h2,h3,h4,h5,h6,h7,h8,h9,h10,h12,h11⟩:=h
 have J:Inv X pins σ H' s':=I.call' (ch:=[]) h2 h4 h5 h3 fun _ z=>nomatch z
 rw [D.xe]
 show wpAny (model X.prog X.w) X.A (leaving X.env (.ref e)) _ _ s'
 have hfr:X.A.frames=some (X.env::X.outer):=by rw [I.ok.frames,D.stk]
 rw [D.stk] at h6
 refine wpAny_leaves_onW hfr D.frm h6 fun h' f1 f2=>?_
 have neL:∀ b o,X.s₀.heap.get? b=some o→b≠X.env.locals:=fun b o q=>Nat.ne_of_lt (Nat.lt_of_lt_of_le (Heap.lt_size q) I.ok.above)
 have inB:∀ b o,X.s₀.heap.get? b=some o→X.H₀ b=none→b∉X.fs→B.get? b=some o:=fun b o q n hb=>by
  have nex:b∉X.ex:=by rw [D.ex]; simp
  refine h9 b o (I.base.keep b o q n hb nex) (I.base.free b o q n nex) ?_
  rw [D.stkFrs]
  intro z
  rcases List.mem_cons.mp z with z | z
  ·exact neL b o q z
  ·exact hb z
 have allB:∀ b o,X.s₀.heap.get? b=some o→b∉X.fs→∃ o',B.get? b=some o':=fun b o q hb=>by
  obtain ⟨o1,q1⟩:=I.base.there b o q (by rw [D.ex]; simp)
  refine h12 b o1 q1 ?_
  rw [D.stkFrs]
  intro z
  rcases List.mem_cons.mp z with z | z
  ·exact neL b o q z
  ·exact hb z
 refine ⟨e,t,cls,vs,H',B,rfl,J.os,h3,⟨fun b o q n hb _=>f1.1 b o (inB b o q n hb),fun b o q n hb _=>?_,fun b o q n _=>J.base.free b o q n (by rw [D.ex]; simp),fun b o q _=>?_,J.base.tups,J.base.frzs,J.base.tbls⟩,?_,f1,h7.of_slots f2,h8,inB,h10,allB,hE _ _ _ h11⟩
 ·obtain ⟨sl,e1⟩:=J.base.slot b o q n hb (by rw [D.ex]; simp)
  obtain ⟨L,oL,hL,hn⟩:=(show ∃ L o,L=b∧s'.heap.get? L=some o∧∀ vs,o.data≠.fields vs from by
   obtain ⟨_,oo,hoo,hnf⟩:=(J.funs).mem hb
   exact ⟨b,oo,rfl,hoo,hnf⟩)
  obtain ⟨rfl,hn,hnf⟩:L=b∧s'.heap.get? L=some oL∧∀ vs,oL.data≠.fields vs:=⟨hL,hn.1,hn.2⟩
  obtain ⟨sl',e2⟩:=f2 L oL hn hnf
  rw [e1] at hn
  cases hn
  exact ⟨sl',e2⟩
 ·by_cases hb:b∈X.fs
  ·obtain ⟨_,o',ho',_⟩:=f1.2.2.1.mem hb
   exact ⟨o',ho'⟩
  ·obtain ⟨o',ho'⟩:=allB b o q hb
   exact ⟨o',f1.1 b o' ho'⟩
 ·exact h5.inB h6.1 f1.1 h10
end
end L2
namespace L2
open PySem PySem.Spec PyProof.Rows

noncomputable abbrev veMro:List Value:=[.type "ValueError",.type "Exception",.type "BaseException",.type "object"]
noncomputable def ExcC (K:PySem.W.Frag) (C:Addr):Prop:=PySem.W.excIn K C veMro "ValueError.__new__"=true
theorem ExcC.at {K:PySem.W.Frag} {C:Addr} {h:Heap} (q:ExcC K C) (X:K.In h):∃ bm N nm qn bs hd sn sub ab col dd k0 k1 k2 k3 k5 mN,
  h.get? C=some (excClassObj nm qn C N bs bm hd sn sub ab col dd k0 k1 k2 k3 k5 "ValueError.__new__")∧h.Ns N mN∧mN "__init__" = none∧OwnTail h veMro bm:=by
 unfold ExcC PySem.W.excIn at q
 cases hl:K.lookup C with
 | none=>rw [hl] at q; cases q
 | some o=>
  rw [hl] at q
  split at q
  ·rename_i dd cd sl ho
   cases ho
   split at q
   ·rename_i C' bm k0 k1 k2 k3 n k5 hm hs
    rw [Bool.and_eq_true,Bool.and_eq_true,Bool.and_eq_true,Bool.and_eq_true,Bool.and_eq_true] at q
    obtain ⟨⟨⟨⟨⟨q1,q2⟩,q3⟩,q4⟩,q5⟩,q6⟩:=q
    have e1:C'=C:=by simpa using q1
    have e2:n="ValueError.__new__":=by simpa using q2
    subst e1 e2
    obtain ⟨nm,bs,mro,ns,qn,hd,sn,sub,ab,col,del⟩:=cd
    have e3:del=false:=by simpa using q3
    have em:mro=.ref C'::bm:=hm
    subst e3 em
    have es:sl=#[k0,k1,k2,k3,some (.builtin "ValueError.__new__"),k5]:=by
     obtain ⟨l⟩:=sl
     have:l=[k0,k1,k2,k3,some (.builtin "ValueError.__new__"),k5]:=hs
     rw [this]
    subst es
    exact ⟨bm,ns,nm,qn,bs,hd,sn,sub,ab,col,dd,k0,k1,k2,k3,k5,_,X _ _ hl,.of_isNs (PySem.W.isNs_of_in X q5),PySem.W.nsMap_none_of_in X q5 (by simpa using q6),PySem.W.tail_of_in X q4⟩
   ·cases q
  ·cases q
theorem ObjOk.ex {P:Program} {w:World} {H:Hp} {h:Heap} {a:Addr} {o:HO} (x:ObjOk P w H h a o):∃ ob,h.get? a=some ob:=by
 cases o with
 | lst xs=>obtain ⟨_,_,_,_,e⟩:=x; exact ⟨_,e⟩
 | tup xs=>obtain ⟨_,_,_,ob,e,_⟩:=x; exact ⟨_,e⟩
 | dK kvs=>obtain ⟨_,_,_,_,o,_,_,e,_⟩:=x; exact ⟨_,e⟩
 | dT kvs=>obtain ⟨_,_,_,_,o,_,_,e,_⟩:=x; exact ⟨_,e⟩
 | set S n=>obtain ⟨o,_,_,_,e,_⟩:=x; exact ⟨_,e⟩
 | ins C dx fs=>obtain ⟨_,_,_,e,_⟩:=x; exact ⟨_,e⟩
 | own y=>exact x
 | xd fs=>obtain ⟨_,⟨_,_,_,e,_⟩,_⟩:=x; exact ⟨_,e⟩
 | rng lo hi=>obtain ⟨_,_,_,e⟩:=x; exact ⟨_,e⟩
 | frz ob u=>obtain ⟨e,_⟩:=x; exact ⟨_,e⟩
 | tbl ps=>exact ⟨_,(show h.get? a=some _ from x)⟩
 | met f y=>exact ⟨_,(show h.get? a=some _ from x)⟩
 | ext φ=>obtain ⟨_,e,_⟩:=x; exact e
section
variable {X:Cx} {E:XK}
theorem Cx.Body.raised (D:X.Body E) {pins:List (Addr×Obj)} {σ:St} {H:Hp} {s:Shared} {h':Heap} {e:Addr} {cls:Value} {us:List Value} (I:Inv X pins σ H s) (hx:Heap.MadeExcOf s.heap h' e cls us) (q:E cls none H) :
  X.xe (.ref e) { s with heap:=h' }:=by
 rw [D.xe]
 have hfr:X.A.frames=some (X.env::X.outer):=by rw [I.ok.frames,D.stk]
 have hin:∀ env∈X.stack,∀ a,env.frame=some a→a∈frs X.stack:=fun env he a ha=>List.mem_filterMap.mpr ⟨env,he,ha⟩
 have hl:s.heap.FunFrames (PySem.W.hideAll s.heap (frs X.stack)) (X.env::X.outer):=by
  have:=PySem.W.funFrames_hide I.stack hin
  rw [D.stk] at this ⊢
  exact this
 refine wpAny_leaves_madeW hfr D.frm (fun b o q=>PySem.W.of_hideAll _ q) hl hx fun h'' t f1 f2 f3 f4=>?_
 have neL:∀ b o,X.s₀.heap.get? b=some o→b≠X.env.locals:=fun b o q=>Nat.ne_of_lt (Nat.lt_of_lt_of_le (Heap.lt_size q) I.ok.above)
 have nfr:∀ b o,X.s₀.heap.get? b=some o→b∉X.fs→b∉frs X.stack:=fun b o q hb z=>by
  rw [D.stkFrs] at z
  rcases List.mem_cons.mp z with z | z
  ·exact neL b o q z
  ·exact hb z
 have nex:∀ b,b∉X.ex:=fun b=>by rw [D.ex]; simp
 have inB:∀ b o,X.s₀.heap.get? b=some o→X.H₀ b=none→b∉X.fs→(PySem.W.hideAll s.heap (frs X.stack)).get? b=some o:=fun b o q n hb=>
  PySem.W.hideAll_get _ (I.base.keep b o q n hb (nex b)) (nfr b o q hb)
 have trB:∀ b u,H b=some u→∃ o,(PySem.W.hideAll s.heap (frs X.stack)).get? b=some o:=fun b u q=>by
  obtain ⟨o,ho⟩:=(I.hok b u q).ex
  exact ⟨o,PySem.W.hideAll_get _ ho fun z=>by rw [I.stkFree b z] at q; cases q⟩
 have allB:∀ b o,X.s₀.heap.get? b=some o→b∉X.fs→∃ o',(PySem.W.hideAll s.heap (frs X.stack)).get? b=some o':=fun b o q hb=>by
  obtain ⟨o1,q1⟩:=I.base.there b o q (nex b)
  exact ⟨o1,PySem.W.hideAll_get _ q1 (nfr b o q hb)⟩
 refine ⟨e,t,cls,us,H,_,rfl,I.os,I.bare,⟨fun b o q n hb _=>f1.1 b o (inB b o q n hb),fun b o q n hb _=>?_,fun b o q n _=>I.base.free b o q n (nex b),fun b o q _=>?_,I.base.tups,I.base.frzs,I.base.tbls⟩,
  I.hok.inB (fun b o q=>PySem.W.of_hideAll _ q) f1.1 trB,f1,f2,f3,inB,trB,allB,q⟩
 ·obtain ⟨sl,e1⟩:=I.base.slot b o q n hb (nex b)
  obtain ⟨_,oo,hoo,hnf⟩:=I.funs.mem hb
  obtain ⟨sl',e2⟩:=f4 b oo (hx.keeps b oo hoo) hnf
  rw [e1] at hoo
  cases hoo
  exact ⟨sl',e2⟩
 ·by_cases hb:b∈X.fs
  ·obtain ⟨_,o',ho',_⟩:=f1.2.2.1.mem hb
   exact ⟨o',ho'⟩
  ·obtain ⟨o',ho'⟩:=allB b o q hb
   exact ⟨o',f1.1 b o' ho'⟩
noncomputable def tRaise (E:XK) (c:Value) (t:TA):TS:=fun _ σ H=>t σ H fun vs H1=>vs.length≤sizeLine∧E c none H1
theorem ps_raise {x:Str} {C:Addr} {np cpos pos:Pos} {e₀:Expr} {es:List Expr} {t:TA} (D:X.Body E) (hc:X.calm=true) (hg:Gl X x) (hm:X.mg x=some (.ref C)) (hq:ExcC X.K C) (ha:PA X (e₀::es) t)
  (hs:isStar e₀=false:=by rfl) (hpl:(backTo cpos (starEach es X.env)).any (·.1)=false:=by rfl) (hd:(x==("__debug__" : Str))=false:=by decide) :
  PS X (.Raise (some (.Call (.Name x np) (e₀::es) [] cpos)) none pos) (tRaise E (.ref C) t):=by
 intro pins s σ H Dn I h
 obtain ⟨bm,N,nm,qn,bs,hdd,sn,sub,ab,col,dd,k0,k1,k2,k3,k5,mN,hC,hN,hni,T⟩:=hq.at I.mod.kin
 have he:starEach (e₀::es) X.env=(false,eval e₀ X.env)::starEach es X.env:=starEach_plain hs
 refine wpAny_Raise_call_subT (C:=C) (nm:=nm) (q:=qn) (N:=N) (bs:=bs) (bm:=bm) (hdct:=hdd) (sn:=sn) (sub:=sub) (ab:=ab) (col:=col) (dd:=dd) (k0:=k0) (k1:=k1) (k2:=k2) (k3:=k3) (k5:=k5)
  PySem.F.excBase_ValueError (mN:=mN) (T.hasType PySem.F.excBase_ValueError.hasBase) (I.ok.hd hc) (by rw [he]; exact hpl) hni (ld_glob I hg hm ⟨rfl,?_⟩ hd)
 have ha':=ha cpos pins s σ H _ I h
 rw [he] at ha' ⊢
 refine Calls.evalArgs_plain (thn ha' fun us s1 ⟨vs,H1,I1,r1,hz,q1⟩=>⟨rfl,by rw [← r1.length]; exact hz,I1.bk _ _ hC,hN.keeps I1.bk,T.keeps I1.bk,fun h' e hx=>D.raised I1 hx q1⟩)
end
end L2
namespace L2
open PySem PySem.Spec PySem.Calls PyProof.Rows PySem.W
open PySem.Builtin PySem.Builtin.ObjectAttr PySem.Builtin.Getset_descriptor

structure ExcK (K:Frag) (C:Addr):Prop where
 exc:ExcC K C
 cls:findIn K (.ref C) "__class__" = some (some (.builtin "object.__class__"))
 ga:findIn K (.ref C) "__getattribute__" = some (some (.builtin "BaseException.__getattribute__"))
 no:findIn K (.ref C) "__getattr__"=some none
 ob:mroIn K C (.type "object")=some true
 be:mroIn K C (.type "BaseException")=some true
noncomputable def ExcAt (e C:Addr) (h:Heap):Prop:=∃ o vs,h.get? e=some o∧o.cls=.ref C∧o.data=.fields vs
section
variable {prog:Program} {w:World} {A:Around} {E:Value→Shared→Prop} {s:Shared} {K:Frag} {e C:Addr}
theorem ExcAt.type {M:Model} {h:Heap} (I:ExcAt e C h):Looks M h (typeOf (.ref e)) (.ref C):=by
 obtain ⟨o,vs,h1,h2,_⟩:=I
 exact h2▸(Looks.ld h1).andThen .now
theorem exc_class_get {tp:Value} {R:Result→Shared→Prop} (X:K.In s.heap) (I:ExcAt e C s.heap) (hm:mroIn K C (.type "object")=some true) (h:R (.ok (.ret (.ref C))) s) :
  codeAny (model prog w) A (.call (.builtin "getset_descriptor.__get__") ⟨[.builtin "object.__class__",.ref e,tp],[]⟩) R s:=by
 obtain ⟨hh,g,dr,t,os⟩:=s
 have L0:=I.type (M:=model prog w)
 have L1:=looks_mroIn (M:=model prog w) X hm
 refine codeAny_call_builtin KF.slot_gs.plain KF.entry_gs (KF.slot_gs.check _ _ _ _ _ _ _ _ KF.type_class (KF.args_gs _ _ _) ?_)
 unfold Builtin.«getset_descriptor.__get__» descrGet
 rw [dga_obj]
 refine wpAny_bind (wpAny_pure ?_)
 unfold descrGetter descrCheckInstance descrNameAndClass isInstance
 simp only [KF.owner_class]
 repeat lk
 refine ⟨Code.quiet_builtin _ (by decide +kernel),codeAny_builtin KF.entry_class ?_⟩
 unfold Builtin.«object.__class__» shownTypeOf
 repeat lk
 exact h
theorem exc_class_entry {tk:Tok} {Q:Fin→Shared→Prop} (X:K.In s.heap) (I:ExcAt e C s.heap) (T:ExcK K C) (hq:Q (.done (.ret (.ref C))) s) :
  wpAny (model prog w) A (Builtin.«object.__getattribute__» ⟨[.ref e,.str "__class__" tk],[]⟩) Q E s:=by
 obtain ⟨hh,g,d,t,os⟩:=s
 have L0:=I.type (M:=model prog w)
 have L1:=looks_findIn (M:=model prog w) X T.cls
 obtain ⟨o,vs,hx,hc,hd⟩:=id I
 have hT5:(⟨hh,g,d,t,os⟩:Shared).TypeIs (.builtin "object.__class__") "getset_descriptor" := F.typeOf_object_class
 have f5:=F.typeOf_object_class
 have f6:=F.slot_gs_get.lookup
 have f7:=F.slot_gs_set.lookup
 repeat (any_goals (first | assumption | (with_reducible refine wpAny_loadPart_at hx ?_; rw [hc]) | with_reducible refine L1.at ?_ | wp_step))
 refine exc_class_get X I T.ob ?_
 repeat (any_goals (first | assumption | wp_step))
theorem exc_check_ga {M:Model} {nameV:Value} {Q:Unit→Shared→Prop} (X:K.In s.heap) (I:ExcAt e C s.heap) (T:ExcK K C) (hq:Q () s) :
  wpAny M A (checkBuiltinCall "BaseException.__getattribute__" ⟨[.ref e,nameV],[]⟩) Q E s:=by
 obtain ⟨hh,g,d,t,os⟩:=s
 have hk:builtinKind "BaseException.__getattribute__"=some .slot:=by decide +kernel
 have hsplit:splitId "BaseException.__getattribute__" = some ("BaseException","__getattribute__"):=by decide +kernel
 have L0:=I.type (M:=M)
 have L1:=looks_mroIn (M:=M) X T.be
 have ha:=F.args_bexc_ga (.ref e) nameV
 simp only [checkBuiltinCall,hk,hsplit]
 refine wpAny_bind ?_
 unfold isInstance
 refine wpAny_bind (L0.at (L1.at ?_))
 repeat (first | assumption | wp_step)
theorem exc_class_call {tk:Tok} {R:Result→Shared→Prop} (X:K.In s.heap) (I:ExcAt e C s.heap) (T:ExcK K C) (hq:R (.ok (.ret (.ref C))) s) :
  codeAny (model prog w) A (.call (.builtin "BaseException.__getattribute__") ⟨[.ref e,.str "__class__" tk],[]⟩) R s:=
 codeAny_call_builtin PySem.F.attr_ValueError.ga.plain F.entry_bexc_ga (exc_check_ga X I T (exc_class_entry X I T hq))
theorem exc_class_attr {Q:Option Value→Shared→Prop} (X:K.In s.heap) (I:ExcAt e C s.heap) (T:ExcK K C) (hq:Q (some (.ref C)) { s with toks:=s.toks+1 }) :
  wpAny (model prog w) A (getAttr? (.ref e) "__class__") Q E s:=by
 obtain ⟨hh,g,d,t,os⟩:=s
 have L0:=I.type (M:=model prog w)
 have L1:=looks_findIn (M:=model prog w) X T.ga
 have L2:=looks_findIn (M:=model prog w) X T.no
 have f3:=PySem.F.attr_ValueError.ga.bind (.ref e)
 have hx2:(Value.builtin "BaseException.__getattribute__" == Value.builtin "object.__getattribute__")=false:=by decide +kernel
 have hx1:(onTheHeap (Value.ref C)&&Value.builtin "BaseException.__getattribute__" == Value.builtin "object.__getattribute__")=false:=by rw [hx2]; rfl
 unfold getAttr? getAttrBy? getAttrBy
 refine wpAny_bind (wpAny_mkText (wpAny_bind (wpAny_attempt (wpAny_holding (wpAny_bind (L0.at (wpAny_bind (L1.at ?_))))))))
 dsimp only
 rw [if_neg (by rw [hx1]; exact Bool.false_ne_true)]
 unfold getAttrByItsOwn hookBefore
 rw [show onTheHeap (Value.ref C)=true from rfl,if_pos rfl]
 refine wpAny_bind (L2.at ?_)
 unfold callGetattribute
 repeat (any_goals (first | assumption | wp_step))
 refine exc_class_call (s:=⟨hh,g,d,t+1,os⟩) X I T ?_
 repeat (any_goals (first | assumption | wp_step))
theorem kitx_exc (T:ExcK K C):KitX K (.ref e) (.ref C) (ExcAt e C) where
 ty:=fun _ _ _ I=>I.type
 it:=fun _ _ X _=>by
  obtain ⟨bm,N,nm,qn,bs,hd,sn,sub,ab,col,dd,k0,k1,k2,k3,k5,mN,hC,_⟩:=T.exc.at X
  intro A' Q' E' s' k q
  unfold isType loadHead
  exact wpAny_bind (wpAny_loadPart (k _ _ hC) (wpAny_pure q))
 ne:=fun h tp dd its n sl X htp=>by
  obtain ⟨bm,N,nm,qn,bs,hd,sn,sub,ab,col,dd',k0,k1,k2,k3,k5,mN,hC,_⟩:=T.exc.at X
  refine Bool.eq_false_iff.mpr fun q=>?_
  have ec:C=tp:=Value.ref.inj (beq_iff_eq.mp q)
  subst ec
  have z:=congrArg Obj.data (Option.some.inj (hC.symm.trans htp))
  unfold excClassObj at z
  cases z
 ca:=fun X I k=>exc_class_attr X I T k
end
noncomputable def IsExc (H:Hp) (e C:Addr):Prop:=H e=some (.ext (ExcAt e C))
inductive IsiX (K:PySem.W.Frag) (xs:List V) (H:Hp) (Q:VK):Prop
 | mk (e:_) (C:_) (c:_) (cv:_) (b:_) (h0_:xs=[.ref e,c]) (h1_:(∀ u,RelV c u→u=cv)) (h2_:IsExc H e C) (h3_:ExcK K C) (h4_:kitOne K (.ref C) cv=some b) (h5_:Q (.bl b) H)
theorem call_isiX {X:Cx}:CallR X (.builtin "isinstance") (IsiX X.K):=by
 intro pins s σ H xs us Q I r h
 obtain ⟨e,C,c,cv,b,rfl,hc,hx,T,hb,q⟩:=h
 obtain ⟨u,w',rfl,rx,rc⟩:=vals2 r
 cases rx
 have ec:=hc w' rc
 subst ec
 obtain ⟨ha,_,_⟩:=(show ObjOk X.prog X.w H s.heap e (.ext (ExcAt e C)) from I.hok e _ hx)
 exact kia_one (kitx_exc T) I.kIn ha hb (fun z=>nomatch z) fun tk=>⟨.bl b,H,I.tok tk,rfl,q⟩
end L2
namespace L2
open PySem PySem.Spec PySem.Calls PyProof.Rows

structure Cx.Frame (X:Cx):Prop where
 stk:X.stack=X.env::X.outer
 frm:X.env.frame=some X.env.locals
noncomputable abbrev Cx.pinned (X:Cx) (pn:List (Addr×Obj)) (E:Value→Shared→Prop):Cx:={ X with pn:=pn,xe:=E }
noncomputable abbrev Cx.caught (X:Cx) (e:Addr) (pn:List (Addr×Obj)):Cx:={ X with A:=X.A.mark (some (.ref e)),calm:=false,pn:=pn,xe:=fun _ _=>False }
noncomputable def nones (σ:St):St:=σ.map fun _=>none
theorem nones_get {σ:St} {i:Nat} {v:V} (h:(nones σ)[i]?=some (some v)):False:=by
 unfold nones at h
 rw [List.getElem?_map] at h
 cases e:σ[i]? with
 | none=>rw [e] at h; cases h
 | some z=>rw [e] at h; cases h
theorem nones_len (σ:St):(nones σ).length=σ.length:=by unfold nones; rw [List.length_map]
section
variable {X:Cx} {pins:List (Addr×Obj)} {σ:St} {H:Hp} {s:Shared}
theorem Inv.repin (I:Inv X pins σ H s) (E:Value→Shared→Prop):Inv (X.pinned (X.pn++pins) E) [] σ H s:=
 ⟨⟨I.ok.mod,I.ok.kind,I.ok.glob,I.ok.blt,I.ok.above,I.ok.inj,I.ok.has,I.ok.cab,I.ok.hd,I.ok.frames,I.ok.stk,I.ok.exf,I.ok.bs,I.ok.bsz,I.ok.noex,I.ok.exfs,I.ok.funs,I.ok.frf⟩,
  I.os,I.bare,I.base,I.loc,I.cell,I.free,I.freeC,fun p hp=>I.pin p (by simpa using hp),I.hok,I.len⟩
theorem Inv.unpin {E:Value→Shared→Prop} {pl:List (Addr×Obj)} (I:Inv (X.pinned (X.pn++pins) E) pl σ H s):Inv X pins σ H s:=
 ⟨⟨I.ok.mod,I.ok.kind,I.ok.glob,I.ok.blt,I.ok.above,I.ok.inj,I.ok.has,I.ok.cab,I.ok.hd,I.ok.frames,I.ok.stk,I.ok.exf,I.ok.bs,I.ok.bsz,I.ok.noex,I.ok.exfs,I.ok.funs,I.ok.frf⟩,
  I.os,I.bare,I.base,I.loc,I.cell,I.free,I.freeC,fun p hp=>I.pin p (List.mem_append_left _ hp),I.hok,I.len⟩
theorem Inv.mark (I:Inv X pins σ H s) (e:Addr):Inv (X.caught e (X.pn++pins)) [] σ H s:=
 ⟨⟨I.ok.mod,I.ok.kind,I.ok.glob,I.ok.blt,I.ok.above,I.ok.inj,I.ok.has,I.ok.cab,(fun z=>nomatch z),I.ok.frames,I.ok.stk,I.ok.exf,I.ok.bs,I.ok.bsz,I.ok.noex,I.ok.exfs,I.ok.funs,I.ok.frf⟩,
  I.os,I.bare,I.base,I.loc,I.cell,I.free,I.freeC,fun p hp=>I.pin p (by simpa using hp),I.hok,I.len⟩
theorem Inv.unmark {e:Addr} {pl:List (Addr×Obj)} (I:Inv (X.caught e (X.pn++pins)) pl σ H s) (ok:X.Ok):Inv X pins σ H s:=
 ⟨ok,I.os,I.bare,I.base,I.loc,I.cell,I.free,I.freeC,fun p hp=>I.pin p (List.mem_append_left _ hp),I.hok,I.len⟩
theorem Inv.forget {h':Heap} {m':Str→Option Value} {t':Nat} (I:Inv X pins σ H s) (ns:h'.Ns X.env.locals m') (sb:Heap.SameBut X.env.locals s.heap h'):Inv X pins (nones σ) H { s with heap:=h',toks:=t' }:=by
 have ne:∀ b u,H b=some u→b≠X.env.locals:=fun b u q z=>by rw [z,I.free] at q; cases q
 have neL:∀ b o,X.s₀.heap.get? b=some o→b≠X.env.locals:=fun b o e=>Nat.ne_of_lt (Nat.lt_of_lt_of_le (Heap.lt_size e) I.ok.above)
 refine ⟨I.ok,I.os,I.bare,⟨fun b o q n hb hx=>(sb.2 b (neL b o q)).trans (I.base.keep b o q n hb hx),fun b o q n hb hx=>?_,I.base.free,fun b o q hx=>?_,I.base.tups,I.base.frzs,I.base.tbls⟩,
  ⟨m',ns,fun i x v e1 e2=>(nones_get e2).elim⟩,fun x c e=>?_,I.free,I.freeC,fun p hp=>?_,fun b u q=>?_,(nones_len σ).trans I.len⟩
 ·obtain ⟨sl,e1⟩:=I.base.slot b o q n hb hx
  exact ⟨sl,(sb.2 b (neL b o q)).trans e1⟩
 ·obtain ⟨o',e1⟩:=I.base.there b o q hx
  exact ⟨o',(sb.2 b (neL b o q)).trans e1⟩
 ·obtain ⟨v,z⟩:=I.cell x c e
  exact ⟨v,z.sameBut sb (I.cne x c e)⟩
 ·obtain ⟨e1,n,ne',nf,d⟩:=I.pin p hp
  exact ⟨(sb.2 p.1 ne').trans e1,n,ne',nf,d⟩
 ·refine (I.hok b u q).stay (fun c v hc z=>(sb.2 c ?_).trans z) (fun _ z=>z) fun _ _ z=>z
  rcases hc with rfl | hc
  ·exact ne c u q
  ·exact ne c _ hc
end
end L2
namespace L2
open PySem PySem.Spec PySem.Calls PyProof.Rows
section
variable {X:Cx}
theorem landed {pins:List (Addr×Obj)} {σ:St} {H H1:Hp} {s s1:Shared} {e C:Addr} {a0:Value} {B h':Heap} (I:Inv X pins σ H s) (ho:s1.os=s.os) (hg:AllBare s1.gens) (u:Un (frs X.stack) [] H H1 s.heap s1.heap) (hk:HOk X.prog X.w H1 s1.heap)
  (f0:B.StaysIn s1.heap) (fl:Heap.FlyingW B X.stack e (.ref C) a0 h') (up:s1.heap.UpToSlots h') (inB:∀ b o,s.heap.get? b=some o→H b=none→b∉frs X.stack→B.get? b=some o) (trB:∀ b v,H1 b=some v→∃ o,B.get? b=some o)
  (allB:∀ b o,s.heap.get? b=some o→b∉frs X.stack→∃ o',B.get? b=some o'):H1 e=none∧Inv X pins σ (upd H1 e (.ext (ExcAt e C))) { s1 with heap:=h' }:=by
 have he:H1 e=none:=by
  cases q:H1 e with
  | none=>rfl
  | some v=>
   obtain ⟨o,z⟩:=trB e v q
   rw [fl.2.1] at z
   cases z
 obtain ⟨oe,vs,hoe,hoc,hod,_⟩:=fl.first
 have efr:e∉frs X.stack:=fun z=>by
  obtain ⟨_,o,h1,h2⟩:=fl.2.2.1.mem z
  rw [hoe] at h1
  cases h1
  exact h2 vs hod
 have eold:∀ o,s.heap.get? e≠some o:=fun o z=>by
  obtain ⟨o',z'⟩:=allB e o z efr
  rw [fl.2.1] at z'
  cases z'
 have hok:HOk X.prog X.w H1 h':=hk.inB f0 fl.1 trB
 have xat:ExcAt e C h':=⟨oe,vs,hoe,hoc,hod⟩
 have hok':HOk X.prog X.w (upd H1 e (.ext (ExcAt e C))) h':=fun b v q=>by
  by_cases hb:b=e
  ·subst hb
   rw [upd_same] at q
   cases q
   exact ⟨xat,⟨oe,hoe⟩,fun h1 h2 ⟨o,ws,p1,p2,p3⟩ k=>⟨o,ws,k o p1,p2,p3⟩⟩
  ·rw [upd_ne hb] at q
   exact (hok b v q).stay (fun _ _ _ z=>z) (fun c z=>by rw [upd_ne (ne_of_none z he)]; exact z) fun c xs z=>by rw [upd_ne (ne_of_none z he)]; exact z
 refine ⟨he,I.call' (ch:=[]) (s':={ s1 with heap:=h' }) ho ⟨fun b o q n hb _=>fl.1 b o (inB b o q n hb),fun b o q n hb _=>?_,fun b o q n hx=>?_,fun b o q hx=>?_,fun b xs q=>?_,fun b o v q=>?_,fun b ps q=>?_⟩ hok' hg fun _ z=>nomatch z⟩
 ·obtain ⟨sl,e1⟩:=u.slot b o q n hb (by simp)
  obtain ⟨_,oo,hoo,hnf⟩:=I.stack.mem hb
  rw [q] at hoo
  cases hoo
  obtain ⟨sl',e2⟩:=up b _ e1 hnf
  exact ⟨sl',e2⟩
 ·rw [upd_ne fun z=>eold o (by rw [← z]; exact q)]
  exact u.free b o q n (by simp)
 ·by_cases hb:b∈frs X.stack
  ·obtain ⟨_,o',ho',_⟩:=fl.2.2.1.mem hb
   exact ⟨o',ho'⟩
  ·obtain ⟨o',ho'⟩:=allB b o q hb
   exact ⟨o',fl.1 b o' ho'⟩
 ·have z:=u.tups b xs q
  rw [upd_ne (ne_of_none z he)]
  exact z
 ·have z:=u.frzs b o v q
  rw [upd_ne (ne_of_none z he)]
  exact z
 ·obtain ⟨more,z⟩:=u.tbls b ps q
  exact ⟨more,by rw [upd_ne (ne_of_none z he)]; exact z⟩
noncomputable def tTry (K:PySem.W.Frag) (Ew:XK) (wv:Value) (i:Nat) (tb ts:TS):TS:=fun D σ H=>tb D σ H∧∀ cls H1,Ew cls none H1→∃ C,cls=.ref C∧PySem.W.exmOne K (.ref C) wv=some true ∧
 ∀ (e:Addr) (σ1:St),σ1.length=σ.length→H1 e=none→ts { nx:=fun σ2 H2=>D.nx (nones σ2) H2,rt:=D.rt,bk:=fun σ2 H2=>D.bk (nones σ2) H2,ct:=fun σ2 H2=>D.ct (nones σ2) H2 } (σ1.set i (some (.ref e))) (upd H1 e (.ext (ExcAt e C)))
theorem ps_try {body:List Stmt} {x n:Str} {W:Addr} {np hpos pos:Pos} {b₀:Stmt} {suite:List Stmt} {i:Nat} {tb ts:TS} (Ew:XK) (F:X.Frame) (hc:X.calm=true) (hN:X.N.Nodup) (hi:X.N[i]?=some n) (hl:X.env.scope.names.lookup n=some .local)
  (hg:Gl X x) (hm:X.mg x=some (.ref W)) (hb:∀ pn E,Passes (CXE X.prog X.w) (X.pinned pn E) Ew→PSs (X.pinned pn E) body tb) (hs:∀ e pn,PSs (X.caught e pn) (b₀::suite) ts)
  (hd:(x==("__debug__" : Str))=false:=by decide) :
  PS X (.Try body [.ExceptHandler (some (.Name x np)) (some n) (b₀::suite) hpos] [] [] pos) (tTry X.K Ew (.ref W) i tb ts):=by
 intro pins s σ H D I h
 obtain ⟨h1,h2⟩:=h
 have pass:Passes (CXE X.prog X.w) (X.pinned (X.pn++pins) fun ev s'=>∃ pl σ0 H0 s0,Inv (X.pinned (X.pn++pins) fun _ _=>True) pl σ0 H0 s0∧CXE X.prog X.w X.stack H0 s0 Ew ev s') Ew:=fun pl σ0 H0 s0 ev s' I0 hx=>
  ⟨pl,σ0,H0,s0,⟨⟨I0.ok.mod,I0.ok.kind,I0.ok.glob,I0.ok.blt,I0.ok.above,I0.ok.inj,I0.ok.has,I0.ok.cab,I0.ok.hd,I0.ok.frames,I0.ok.stk,I0.ok.exf,I0.ok.bs,I0.ok.bsz,I0.ok.noex,I0.ok.exfs,I0.ok.funs,I0.ok.frf⟩,
   I0.os,I0.bare,I0.base,I0.loc,I0.cell,I0.free,I0.freeC,I0.pin,I0.hok,I0.len⟩,hx⟩
 refine wpAny_Try_except (wpAny_mono (hb _ _ pass [] s σ H D (I.repin _) h1) (fun f s1 q=>?_) fun ev s1 q=>?_)
 ·cases f with
  | next=>
   obtain ⟨σ1,H1,I1,q1⟩:=q
   exact wpAny_execs_nil ⟨σ1,H1,I1.unpin,q1⟩
  | brk=>obtain ⟨σ1,H1,I1,q1⟩:=q; exact ⟨σ1,H1,I1.unpin,q1⟩
  | cont=>obtain ⟨σ1,H1,I1,q1⟩:=q; exact ⟨σ1,H1,I1.unpin,q1⟩
  | ret u=>obtain ⟨v,σ1,H1,I1,r1,q1⟩:=q; exact ⟨v,σ1,H1,I1.unpin,r1,q1⟩
 ·obtain ⟨pl,σ0,H0,s0,I0',e,t,cls,vs,H1,B,rfl,g2,g3,g4,g5,g6,g7,g8,g9,g10,g12,g11⟩:=q
  have I0:Inv X pins σ0 H0 s0:=I0'.unpin
  obtain ⟨C,rfl,hmatch,hts⟩:=h2 cls H1 g11
  have hfr:X.A.frames=some (X.env::X.outer):=by rw [I.ok.frames,F.stk]
  have g6':=g6
  rw [F.stk] at g6'
  refine wpAny_looks_onW hfr F.frm g6' fun h3 held3 up3=>?_
  refine wpAny_landsW held3 fun h4 fl4 up4=>?_
  have fl4':Heap.FlyingW B X.stack e (.ref C) (.ref t) h4:=by rw [F.stk]; exact fl4
  have st4:=(landed I0 g2 g3 g4 g5 g6.1 fl4' (up3.trans up4) g9 g10 g12).2
  have K4:=st4.mark e
  refine wpAny_handleBy_cons (codeAny_handlers_test (ld_glob (X:=X.caught e (X.pn++pins)) K4 hg hm ?_ hd)) (by intro z; cases z)
  obtain ⟨oe,ws,hoe,hoc,hod,_⟩:=fl4.first
  have LT:PySem.W.Looks (model X.prog X.w) h4 (typeOf (.ref e)) (.ref C):=(show ExcAt e C h4 from ⟨oe,ws,hoe,hoc,hod⟩).type
  refine (PySem.W.exm_one (M:=model X.prog X.w) K4.kIn LT hmatch).at ?_
  refine codeAny_handlers_suite_as ?_
  refine lands_againW fl4 fun h5 fl5 up5=>?_
  have fl5':Heap.FlyingW B X.stack e (.ref C) (.ref t) h5:=by rw [F.stk]; exact fl5
  obtain ⟨he,st5⟩:=landed I0 g2 g3 g4 g5 g6.1 fl5' ((up3.trans up4).trans up5) g9 g10 g12
  have K5:=st5.mark e
  refine store_ok (X:=X.caught e (X.pn++pins)) K5 hN hi (.inl hl) (v:=.ref e) rfl (fun s6 I6=>?_) (.inr hl)
  refine wpAny_mono (hs e (X.pn++pins) [] s6 _ _ _ I6 (hts e σ0 (I0.len.trans I.len.symm) he)) (fun f s7 q7=>?_) fun _ _ z=>z.elim
  have gone:∀ {σ7:St} {H7:Hp} {Q:Unit→Shared→Prop} {E:Value→Shared→Prop},Inv (X.caught e (X.pn++pins)) [] σ7 H7 s7→(∀ s8,Inv X pins (nones σ7) H7 s8→Q () s8) →
    wpAny (model X.prog X.w) X.A (do bindName X.env n .none; unbindBehindTheSuite X.env n hpos) Q E s7:=fun {σ7 H7 Q E} I7 k=>by
   have J7:Inv X pins σ7 H7 s7:=I7.unmark I.ok
   obtain ⟨m,hn,_⟩:=J7.loc
   exact wpAny_nameGoes hl hn (by rw [I.ok.kind]; rfl) fun h8 m8 ns8 sb8=>k _ (J7.forget ns8 sb8)
  cases f with
  | next=>obtain ⟨σ7,H7,I7,q7⟩:=q7; exact gone I7 fun s8 I8=>⟨_,H7,I8,q7⟩
  | brk=>obtain ⟨σ7,H7,I7,q7⟩:=q7; exact gone I7 fun s8 I8=>⟨_,H7,I8,q7⟩
  | cont=>obtain ⟨σ7,H7,I7,q7⟩:=q7; exact gone I7 fun s8 I8=>⟨_,H7,I8,q7⟩
  | ret u=>obtain ⟨v,σ7,H7,I7,r7,q7⟩:=q7; exact gone I7 fun s8 I8=>⟨v,_,H7,I8,r7,q7⟩
end
end L2
namespace L2
open PySem PySem.Spec PySem.Calls PyProof.Rows
structure RoomU (k:Nat) (A:Around):Prop where
 dp:A.depth+3*k+5<recursionLimit
 un:A.units+16*k+200<cLine
theorem RoomU.deeper {k:Nat} {A:Around} (r:RoomU (k+1) A) (env:Env):RoomU k (A.deeper env):=
 ⟨by have:=r.dp; show A.depth+1+3*k+5<_; omega,by have:=r.un; show A.units+3+16*k+200<_; omega⟩
theorem RoomU.depth {k:Nat} {A:Around} (r:RoomU k A):A.depth<recursionLimit:=by have:=r.dp; omega
noncomputable def cxU (P:Program) (w:World) (K:PySem.W.Frag) (mg:Str→Option Value) (base:Heap) (N:List Str) (qual:Str) (scope:Scope) (f:Addr) (cd:Value) (A:Around) (outer:List Env) (s:Shared) (H:Hp):Cx:=
 { cxOf CX0 P w K mg base N qual scope f cd A outer s H E0 with calm:=false,xe:=fun _ _=>False }
structure FnOkU (P:Program) (w:World) (K:PySem.W.Frag) (mg:Str→Option Value) (base:Heap) (k:Nat) (f:Addr) (fd:FuncData) (ps:List Str) (sp:Sp):Prop where
 len:∀ vs H Q E,sp vs H Q E→vs.length=ps.length
 run:∀ (A:Around) (outer:List Env) (s:Shared) (H:Hp) (args:Args) (us:List Value) (vs:List V) (Q:VK),RoomU k A→Env0 P w K mg base A outer s H→BindsTo s fd args (ps.zip us)→Vals vs us→sp vs H Q E0 →
  codeAny (model P w) A (.call (.ref f) args) (CR CX0 outer P w H s Q E0) s
section
variable {P:Program} {w:World} {K:PySem.W.Frag} {mg:Str→Option Value} {base:Heap}
theorem inv_startU {N ps:List Str} {qual:Str} {scope:Scope} {f:Addr} {cd:Value} {A:Around} {outer:List Env} {s s1:Shared} {H:Hp} {us:List Value} {vs:List V}
  (S:FnScope N ps scope) (e0:Env0 P w K mg base A outer s H) (hl:vs.length=ps.length) (r:Vals vs us)
  (x:InCallC s s.heap.objs.size (bindL (envOfC qual scope s.heap.objs.size f cd).kindOf (ps.zip us) fun _=>none) (cellsFrom (s.heap.objs.size+1) scope.names []) (bindC (envOfC qual scope s.heap.objs.size f cd).kindOf (ps.zip us) fun _=>none) s1) :
  Inv (cxU P w K mg base N qual scope f cd A outer s H) [] (start N vs) H s1:=by
 have J:=inv_start (CX:=CX0) (E:=E0) (A:={ A with handled:=none }) (f:=f) (cd:=cd) S rfl ⟨e0.frames,e0.mod,e0.bs,e0.bsz,e0.funs,e0.frf,e0.hok,e0.bare⟩ hl r x
 exact ⟨⟨J.ok.mod,J.ok.kind,J.ok.glob,J.ok.blt,J.ok.above,J.ok.inj,J.ok.has,J.ok.cab,(fun z=>nomatch z),Around.frames_deeper e0.frames,J.ok.stk,J.ok.exf,J.ok.bs,J.ok.bsz,J.ok.noex,J.ok.exfs,J.ok.funs,J.ok.frf⟩,
  J.os,J.bare,J.base,J.loc,J.cell,J.free,J.freeC,J.pin,J.hok,J.len⟩
theorem Fun.okU {x qual:Str} {st:Stmt} {f:Addr} {fd:FuncData} {N ps:List Str} {k:Nat} {sp:Sp} (F:Fun K x qual st f fd) (S:FnScope N ps (defScope st)) (len:∀ vs H Q E,sp vs H Q E→vs.length=ps.length)
  (hbody:∀ (cdv:Value) (A:Around) (outer:List Env) (s:Shared) (H:Hp) (vs:List V) (Q:VK),RoomU k (A.deeper (envOfC qual (defScope st) s.heap.objs.size f cdv))→sp vs H Q E0 →
   ∃ t,PSs (cxU P w K mg base N qual (defScope st) f cdv A outer s H) (defBody st) t∧t { nx:=fun _ H'=>Q .non H',rt:=Q } (start N vs) H):FnOkU P w K mg base (k+1) f fd ps sp:=by
 obtain ⟨oc,od,kV,doc,pm,an,cdv,ct,osl,rfl,lk,hcd⟩:=F.ex
 refine ⟨len,fun A outer s H args us vs Q hr e0 hb r hsp=>?_⟩
 have hl:=len _ _ _ _ hsp
 have KX:K.In s.heap:=e0.mod.kin.keeps fun b o e=>(e0.bs b o e).1
 have lim:s.heap.NoLimit:=e0.mod.nolimit.keeps fun b o e=>(e0.bs b o e).1
 have hkind:∀ y∈ps.zip us,(defScope st).names.lookup y.1=some .local∨((defScope st).names.lookup y.1=some .cell∧((cellsFrom (s.heap.objs.size+1) (defScope st).names []).lookup y.1).isSome=true):=fun ⟨n,v⟩ hy=>by
  rcases S.par n (List.of_mem_zip hy).1 with q | q
  ·exact .inl q
  ·exact .inr ⟨q,PySem.W.cellsFrom_some _ _ _ (.inl q)⟩
 refine codeAny_call_function hr.depth (KX _ _ lk) rfl S.co S.gen rfl (PySem.W.codeRec_of KX hcd) (hb _ _ _ _ ?_)
 refine wpAny_newFunctionEnv_cells S.kind hkind fun env he s1 x=>?_
 subst he
 refine ⟨lim.keeps x.toInCall.keep,codeAny_func ?_⟩
 obtain ⟨t,ht,hq⟩:=hbody cdv A outer s H vs Q (hr.deeper _) hsp
 have I:Inv (cxU P w K mg base N qual (defScope st) f cdv A outer s H) [] (start N vs) H s1:=inv_startU S e0 hl r x
 refine wpAny_mono (ht [] s1 (start N vs) H _ I hq) (fun fl s' hs=>?_) fun e s' hs=>hs.elim
 have fin:∀ {σ':St} {H':Hp} {v:V} {u:Value},Inv (cxU P w K mg base N qual (defScope st) f cdv A outer s H) [] σ' H' s'→RelV v u→Q v H'→CE outer P w H s Q u s':=
  fun {σ' H' v u} J rv q=>⟨v,H',J.os,J.bare,J.base,J.hok,rv,q⟩
 cases fl with
 | ret u=>obtain ⟨v,σ',H',J,rv,q⟩:=hs; exact fin J rv q
 | next=>obtain ⟨σ',H',J,q⟩:=hs; exact fin (v:=V.non) (u:=Value.none) J rfl q
 | brk=>obtain ⟨_,_,_,q⟩:=hs; exact False.elim q
 | cont=>obtain ⟨_,_,_,q⟩:=hs; exact False.elim q
end
section
variable {X:Cx} {k:Nat} {f:Addr} {fd:FuncData} {ps:List Str} {sp:Sp} {x:Str} {e:Expr} {es:List Expr} {t:TA} {p pos:Pos}
theorem pe_callU (F:FnOkU X.prog X.w X.K X.mg X.base k f fd ps sp) (hr:RoomU k X.A) (hg:Gl X x) (hm:X.mg x=some (.ref f)) (hk:PySem.W.keepIn X.K (.ref f)=true) (hb:Binds X.K fd ps [])
  (ha:PA X (e::es) t) (hs:isStar e=false:=by rfl) (hdb:(x==("__debug__" : Str))=false:=by decide) (hpl:(backTo pos (starEach es X.env)).any (·.1)=false:=by rfl) :
  PE X (.Call (.Name x p) (e::es) [] pos) (tCall sp [] E0 t):=by
 intro pins s σ H Q I h
 refine wpAny_Call_Name_kw (ld_glob I hg hm ?_ hdb)
 refine PySem.W.callWith_K (h₀:=X.base) I.ok.mod.kin hk (thn (ha pos pins s σ H _ I h) fun us s1 ⟨vs,H1,I1,r,q⟩=>⟨I1.kIn,?_⟩) (starEach_plain hs) hpl
 have q':sp vs H1 Q E0:=by have z:sp (vs++[]) H1 Q E0:=q; rw [List.append_nil] at z; exact z
 have hl:us.length=ps.length:=by rw [← r.length]; exact F.len _ _ _ _ q'
 have hb':=hb s1 us I1.kIn (by rw [List.append_nil]; exact hl)
 rw [List.append_nil] at hb'
 refine wpAny_call (codeAny_mono (F.run X.A X.stack s1 H1 ⟨us,[]⟩ us vs Q hr I1.env0 hb' r q') fun rr s' hq=>?_)
 cases rr with
 | error e=>exact False.elim hq
 | ok fl=>
  cases fl with
  | ret u=>exact I1.after hq
  | next=>exact False.elim hq
  | brk=>exact False.elim hq
  | cont=>exact False.elim hq
end
end L2
namespace L2
open PySem PySem.Spec PySem.Calls PyProof.Rows PySem.W
noncomputable def BMain (mg:Str→Option Value) (base:Heap):Prop:=∃ bm ob,mg "__builtins__" = some (.ref bm)∧bm≠builtinsNs∧base.get? bm=some ob∧ob.cls=.type "module" ∧ ob.dict=some builtinsNs∧ob.data=.plain
noncomputable def CodeIs (c:Addr) (q:Str) (h:Heap):Prop:=∃ o vs t,h.get? c=some o∧o.data=.fields vs∧vs[1]?=some (.str q t)
section
variable {X:Cx} {pins:List (Addr×Obj)} {σ:St} {H:Hp} {s:Shared}
theorem Inv.lamTab {P c':Addr} {q:Str} {ps more:Array Value} {h':Heap} {t':Nat} (I:Inv X pins σ H s) (hP:H P=some (.tbl ps)) (k:Heap.ExtBut P s.heap h') (hn:h'.get? P=some (tabObj (ps++more)))
  (hge:s.heap.objs.size≤c') (hcd:CodeIs c' q h'):Inv X pins σ (upd (upd H P (.tbl (ps++more))) c' (.ext (CodeIs c' q))) { s with heap:=h',toks:=t' }:=by
 have neP:∀ b,H b=none→b≠P:=fun b n z=>by rw [z,hP] at n; cases n
 have nec:∀ b o,s.heap.get? b=some o→b≠c':=fun b o e=>Nat.ne_of_lt (Nat.lt_of_lt_of_le (Heap.lt_size e) hge)
 have hc0:H c'=none:=I.hok.fresh hge
 have cP:c'≠P:=neP c' hc0
 have H2:∀ b u,H b=some u→b≠P→upd (upd H P (.tbl (ps++more))) c' (.ext (CodeIs c' q)) b=some u:=fun b u e hb=>by rw [upd_ne (ne_of_none e hc0),upd_ne hb]; exact e
 refine I.step (g':=s.gens) (d':=s.drawn) (ch:=[]) (fun _ z=>nomatch z) (fun b o _ _ _ e n=>k b o (neP b n) e) (fun b o _ _ _ e n=>⟨o.slots,k b o (neP b n) e⟩)
  (fun b o _ e n=>by rw [upd_ne (nec b o e),upd_ne (neP b n)]; exact n) (fun b o _ e=>?_) (fun b xs e=>H2 b _ e fun z=>by rw [z,hP] at e; cases e) (fun b o u e=>H2 b _ e fun z=>by rw [z,hP] at e; cases e)
  (fun b ps' e=>?_) (fun m hm=>hm.extBut k (neP _ I.free)) (fun b u e=>?_) I.bare
 ·by_cases hb:b=P
  ·subst hb; exact ⟨_,hn⟩
  ·exact ⟨o,k b o hb e⟩
 ·by_cases hb:b=P
  ·subst hb
   rw [hP] at e
   cases e
   exact ⟨more,by rw [upd_ne (Ne.symm cP),upd_same]⟩
  ·exact ⟨#[],by rw [H2 b _ e hb]; simp⟩
 ·by_cases hb:b=c'
  ·subst hb
   rw [upd_same] at e
   cases e
   obtain ⟨o,vs,t,e1,e2,e3⟩:=id hcd
   exact ⟨hcd,⟨o,e1⟩,fun h1 h2 ⟨o,vs,t,p1,p2,p3⟩ kk=>⟨o,vs,t,kk o p1,p2,p3⟩⟩
  ·rw [upd_ne hb] at e
   by_cases hbP:b=P
   ·subst hbP
    rw [upd_same] at e
    cases e
    exact hn
   ·rw [upd_ne hbP] at e
    refine (I.hok b u e).stay (fun d v hd z=>k d v ?_ z) (fun d z=>H2 d _ z fun y=>by rw [y,hP] at z; cases z) fun d xs z=>H2 d _ z fun y=>by rw [y,hP] at z; cases z
    rcases hd with rfl | hd
    ·exact hbP
    ·intro y
     rw [y,hP] at hd
     cases hd
theorem lam_made {params:Arguments} {body:Expr} {scope:Scope} {pos:Pos} {c P:Addr} {ps:Array Value} {Q:Value→Shared→Prop} {E:Value→Shared→Prop} (I:Inv X pins σ H s) (hcode:X.env.code=.ref c) (hc:codeHdIn X.K c P=true) (bm:BMain X.mg X.base)
  (hP:H P=some (.tbl ps)) (ht:TriplesOk ps.toList) (hnf:codeAmong pos ps.toList=none) (hdef:defaultsOf params X.env=([],[])) (hfr:∀ n∈freeOf scope,X.env.kindOf n=some .cell∨X.env.kindOf n=some .free)
  (k:∀ (f c':Addr) (pm ctv:Value) (s1:Shared),Inv X pins σ (upd (upd H P (.tbl (ps++#[rawInt pos.line,rawInt pos.col,.ref c']))) c' (.ext (CodeIs c' (X.env.qual++"<lambda>")))) s1→H c'=none→c'≠P→c'<f→s.heap.objs.size≤c' →
   (∀ b o,b≠P→s.heap.get? b=some o→s1.heap.get? b=some o) →
   s1.heap.get? f=some (kla_obj "<lambda>" (X.env.qual++"<lambda>") params body scope (closOf scope X.env) pm c' ctv)→Q (.ref f) s1) :
  wpAny (model X.prog X.w) X.A (eval (.Lambda params body scope pos) X.env) Q E s:=by
 have hcl:closureFor scope X.env=pure (closOf scope X.env):=closureFor_eq fun n hn=>I.ok.has n (hfr n hn)
 obtain ⟨b,ob,b1,b2,b3,b4,b5,b6⟩:=bm
 have hg:s.heap.Ns mainGlobals X.mg:=I.mod.glob.keeps I.bk
 have bP:∀ d o,X.base.get? d=some o→d≠P:=fun d o e z=>by have:=(I.bs d o e).2; rw [z,hP] at this; cases this
 have hgP:mainGlobals≠P:=by
  obtain ⟨o,_,_,e,_⟩:=I.mod.glob
  exact bP _ o e
 have hbG:b≠mainGlobals:=fun z=>by
  obtain ⟨o,es,ep,e,hd,_⟩:=I.mod.glob
  rw [z,e] at b3
  cases b3
  rw [hd] at b6
  cases b6
 have hob:s.heap.get? P=some (tabObj ps):=I.hok P _ hP
 refine kla_eval hdef (kla_makeFunction (mg:=X.mg) hcl I.ok.glob hg hcode (codeHd_of_K I.kIn hc) hob ht hnf hgP ⟨b,ob,b1,b2,hbG,bP _ _ b3,I.bk _ _ b3,b4,b5,b6⟩ fun c' ctv h' tk hx hge hlt hrec htb=>?_)
 obtain ⟨c2,o2,vs2,t2,e2,r1,r2,r3⟩:=hrec
 cases e2
 have hc0:H c'=none:=I.hok.fresh hge
 refine k h'.objs.size c' _ ctv _ (I.lamTab (t':=tk) hP (fun d o hd e=>Heap.get?_push_of_some _ (hx d o hd e)) (Heap.get?_push_of_some _ htb) hge ⟨o2,vs2,t2,Heap.get?_push_of_some _ r1,r2,r3⟩) hc0 (fun z=>by rw [z,hP] at hc0; cases hc0) hlt hge
  (fun d o hd e=>Heap.get?_push_of_some _ (hx d o hd e)) (Heap.get?_push_size _ rfl)
end
end L2
namespace L2
open PySem PySem.Spec PySem.Calls PyProof.Rows PySem.W
structure LamAt (h:Heap) (H:Hp) (fr:List Addr) (f c':Addr) (q:Str) (params:Arguments) (body:Expr) (scope:Scope) (cl:List (Str×Addr)) (NL:List Str) (σL:St):Prop where
 fn:∃ pm ctv,h.get? f=some (kla_obj "<lambda>" q params body scope cl pm c' ctv)
 fH:H f=none
 ff:f∉fr
 code:H c'=some (.ext (CodeIs c' q))
 inj:∀ x y a,cl.lookup x=some a→cl.lookup y=some a→x=y
 cell:∀ x a,cl.lookup x=some a→(∃ v,h.IsCell a v)∧H a=none∧a∉fr
 val:∀ (i:Nat) x v,NL[i]?=some x→σL[i]?=some (some v)→∃ a u,cl.lookup x=some a∧RelV v u∧h.IsCell a (some u)
 len:σL.length=NL.length
theorem LamAt.stay {h h':Heap} {H:Hp} {fr fr':List Addr} {f c':Addr} {q:Str} {params:Arguments} {body:Expr} {scope:Scope} {cl:List (Str×Addr)} {NL:List Str} {σL:St} (L:LamAt h H fr f c' q params body scope cl NL σL)
  (k:∀ b o,h.get? b=some o→H b=none→b∉fr→h'.get? b=some o) (hf:∀ b o,h.get? b=some o→b∉fr→b∉fr'):LamAt h' H fr' f c' q params body scope cl NL σL:=by
 obtain ⟨pm,ctv,e⟩:=L.fn
 have kc:∀ x a,cl.lookup x=some a→∀ v,h.IsCell a v→h'.IsCell a v:=fun x a hx v ⟨o,ho,hd⟩=>⟨o,k a o ho (L.cell x a hx).2.1 (L.cell x a hx).2.2,hd⟩
 refine ⟨⟨pm,ctv,k _ _ e L.fH L.ff⟩,L.fH,hf _ _ e L.ff,L.code,L.inj,fun x a hx=>?_,fun i x v h1 h2=>?_,L.len⟩
 ·obtain ⟨⟨v,hv⟩,h1,h2⟩:=L.cell x a hx
  obtain ⟨o,ho,_⟩:=id hv
  exact ⟨⟨v,kc x a hx v hv⟩,h1,hf a o ho h2⟩
 ·obtain ⟨a,u,hx,r,hc⟩:=L.val i x v h1 h2
  exact ⟨a,u,hx,r,kc x a hx _ hc⟩
structure LamScope (scope:Scope) (cl:List (Str×Addr)) (NL:List Str):Prop where
 kind:scope.kind=.function
 co:scope.isCoroutine=false
 gen:scope.isGenerator=false
 cell:∀ x∈scope.names,x.2≠.cell
 has:∀ x,scope.names.lookup x=some .free→∃ a,cl.lookup x=some a
 nl:∀ x∈NL,scope.names.lookup x=some .free
noncomputable def cxLam (X:Cx) (q:Str) (scope:Scope) (f c':Addr) (cl:List (Str×Addr)) (s:Shared) (H:Hp) (NL:List Str) (E:XK):Cx where
 prog:=X.prog
 w:=X.w
 K:=X.K
 mg:=X.mg
 base:=X.base
 A:=X.A.deeper (envX q scope s.heap.objs.size f (.ref c') cl)
 N:=NL
 s₀:=s
 H₀:=H
 env:=envX q scope s.heap.objs.size f (.ref c') cl
 outer:=X.stack
 stack:=envX q scope s.heap.objs.size f (.ref c') cl::X.stack
 ex:=[]
 fn:=fun _=>false
 calm:=true
 pn:=[]
 xe:=fun e s'=>wpAny (model X.prog X.w) (X.A.deeper (envX q scope s.heap.objs.size f (.ref c') cl)) (leaving (envX q scope s.heap.objs.size f (.ref c') cl) e) (fun _ s''=>CXE X.prog X.w X.stack H s E e s'') (fun e' s''=>CXE X.prog X.w X.stack H s E e' s'') s'
section
variable {X:Cx} {q:Str} {scope:Scope} {f c':Addr} {cl:List (Str×Addr)} {H:Hp} {s:Shared} {NL:List Str} {E:XK}
theorem bodyLam:(cxLam X q scope f c' cl s H NL E).Body E:=⟨rfl,rfl,rfl,rfl⟩
theorem lam_run {pins:List (Addr×Obj)} {σ σL:St} {k:Nat} {params:Arguments} {body:Expr} {te:TE} {Q:VK} (I:Inv X pins σ H s) (L:LamAt s.heap H (frs X.stack) f c' q params body scope cl NL σL) (S:LamScope scope cl NL) (hr:Room (k+1) X.A)
  (hba:∀ pm ctv,bindArgs (kla_fn "<lambda>" q params body scope cl pm (.ref c') ctv) ⟨[],[]⟩=pure []) (hb:PE (cxLam X q scope f c' cl s H NL E) body te) (hq:te σL H Q) :
  codeAny (model X.prog X.w) X.A (.call (.ref f) ⟨[],[]⟩) (CR (CXE X.prog X.w) X.stack X.prog X.w H s Q E) s:=by
 obtain ⟨pm,ctv,ho⟩:=L.fn
 obtain ⟨⟨oc,vs,t,e1,e2,e3⟩,_,_⟩:=(show ObjOk X.prog X.w H s.heap c' (.ext (CodeIs c' q)) from I.hok c' _ L.code)
 refine kla_callFunE hr.depth ho rfl S.co S.gen rfl ⟨c',oc,vs,t,rfl,e1,e2,e3⟩ ?_
 rw [hba]
 refine wpAny_pure (wpAny_newFunctionEnv S.cell (by intro y hy; simp at hy) (fun h₁ hns hsb=>?_) S.kind)
 have hk:∀ b o,s.heap.get? b=some o→h₁.get? b=some o:=fun b o e=>hsb.extBut b o (Nat.ne_of_lt (Heap.lt_size e)) (Heap.get?_push_of_some _ e)
 refine ⟨I.nolimit.keeps hk,?_⟩
 have kc:∀ a v,s.heap.IsCell a v→h₁.IsCell a v:=fun a v ⟨o,h1,h2⟩=>⟨o,hk a o h1,h2⟩
 have J:Inv (cxLam X q scope f c' cl s H NL E) [] σL H { s with heap:=h₁,toks:=s.toks+([]:List (Str×Value)).length }:=by
  refine ⟨⟨I.ok.mod,S.kind,rfl,rfl,Nat.le_refl _,L.inj,fun x hx=>?_,fun x c z _=>absurd z (by show ¬ false=true; decide),fun _=>hr.hd,Around.frames_deeper I.ok.frames,.inr ⟨rfl,rfl⟩,fun b z=>absurd (show b∈([]:List Addr) from z) (by simp),I.bs,Nat.le_trans I.ok.bsz I.sz,
   fun b _ _ z=>absurd (show b∈([]:List Addr) from z) (by simp),fun b z=>absurd (show b∈([]:List Addr) from z) (by simp),I.stack,I.stkFree⟩,
   rfl,I.bare,Un.kept hk,⟨_,hns,fun i x v h1 h2 h3=>?_⟩,fun x c e=>?_,I.hok.fresh (Nat.le_refl _),fun x c e=>(L.cell x c e).2.1,fun p hp=>absurd (show p∈([]:List (Addr×Obj)) from hp) (by simp),I.hok.kept hk,L.len⟩
  ·have hx:scope.names.lookup x=some .cell∨scope.names.lookup x=some .free:=hx
   rcases hx with hx | hx
   ·exact absurd rfl (S.cell _ (PySem.mem_of_lookup hx))
   ·exact S.has x hx
  ·obtain ⟨a,u,hx,r,hc⟩:=L.val i x v h1 h2
   exact ⟨u,r,.inr ⟨.inr (S.nl x (List.mem_of_getElem? h1)),a,hx,kc a _ hc⟩⟩
  ·obtain ⟨⟨v,hv⟩,_⟩:=L.cell x c e
   exact ⟨v,kc c v hv⟩
 show codeAny _ _ (.expr body (envX q scope s.heap.objs.size f (.ref c') cl)) _ _
 refine kla_codeExpr (wpAny_mono (hb [] _ σL H Q J hq) (fun v s' ⟨x,H',J',r,q'⟩=>?_) fun e s' h=>h)
 exact ⟨x,H',J'.os,J'.bare,J'.base,J'.hok,r,q'⟩
end
end L2
namespace L2
open PySem PySem.Spec PySem.Calls PyProof.Rows PySem.W
section
variable {P:Program} {w:World} {K:Frag} {mg:Str→Option Value} {base:Heap}
theorem fn_run {CX:CXT} {x qual:Str} {st:Stmt} {f:Addr} {fd:FuncData} {N ps:List Str} {k:Nat} (F:Fun K x qual st f fd) (S:FnScope N ps (defScope st)) {A:Around} {outer:List Env} {s:Shared} {H:Hp} {args:Args} {us:List Value} {vs:List V} {Q:VK} {E:XK}
  (hr:Room (k+1) A) (e0:Env0 P w K mg base A outer s H) (hb:BindsTo s fd args (ps.zip us)) (hl:vs.length=ps.length) (r:Vals vs us)
  (hbody:∀ cdv,Room k (A.deeper (envOfC qual (defScope st) s.heap.objs.size f cdv))→∃ t,PSs (cxOf CX P w K mg base N qual (defScope st) f cdv A outer s H E) (defBody st) t∧t { nx:=fun _ H'=>Q .non H',rt:=Q } (start N vs) H) :
  codeAny (model P w) A (.call (.ref f) args) (CR CX outer P w H s Q E) s:=by
 obtain ⟨oc,od,kV,doc,pm,an,cdv,ct,osl,rfl,lk,hcd⟩:=F.ex
 have KX:K.In s.heap:=e0.mod.kin.keeps fun b o e=>(e0.bs b o e).1
 have lim:s.heap.NoLimit:=e0.mod.nolimit.keeps fun b o e=>(e0.bs b o e).1
 have hkind:∀ y∈ps.zip us,(defScope st).names.lookup y.1=some .local∨((defScope st).names.lookup y.1=some .cell∧((cellsFrom (s.heap.objs.size+1) (defScope st).names []).lookup y.1).isSome=true):=fun ⟨n,v⟩ hy=>by
  rcases S.par n (List.of_mem_zip hy).1 with q | q
  ·exact .inl q
  ·exact .inr ⟨q,cellsFrom_some _ _ _ (.inl q)⟩
 refine codeAny_call_function hr.depth (KX _ _ lk) rfl S.co S.gen rfl (codeRec_of KX hcd) (hb _ _ _ _ ?_)
 refine wpAny_newFunctionEnv_cells S.kind hkind fun env he s1 x=>?_
 subst he
 refine ⟨lim.keeps x.toInCall.keep,codeAny_func ?_⟩
 obtain ⟨t,ht,hq⟩:=hbody cdv (hr.deeper _)
 have I:Inv (cxOf CX P w K mg base N qual (defScope st) f cdv A outer s H E) [] (start N vs) H s1:=inv_start S hr.hd e0 hl r x
 refine wpAny_mono (ht [] s1 (start N vs) H _ I hq) (fun fl s' hs=>?_) fun e s' hs=>hs
 have fin:∀ {σ':St} {H':Hp} {v:V} {u:Value},Inv (cxOf CX P w K mg base N qual (defScope st) f cdv A outer s H E) [] σ' H' s'→RelV v u→Q v H'→CE outer P w H s Q u s':=
  fun {σ' H' v u} J rv q=>⟨v,H',J.os,J.bare,J.base,J.hok,rv,q⟩
 cases fl with
 | ret u=>obtain ⟨v,σ',H',J,rv,q⟩:=hs; exact fin J rv q
 | next=>obtain ⟨σ',H',J,q⟩:=hs; exact fin (v:=V.non) (u:=Value.none) J rfl q
 | brk=>obtain ⟨_,_,_,q⟩:=hs; exact False.elim q
 | cont=>obtain ⟨_,_,_,q⟩:=hs; exact False.elim q
end
noncomputable abbrev NT:List Str:=["_law_deed","_law_e"]
noncomputable abbrev cxT (X:Cx) (sc:Scope) (ft:Addr) (cdv:Value) (A:Around) (outer:List Env) (s:Shared) (H:Hp) (pn:List (Addr×Obj)) (E:Value→Shared→Prop):Cx:=
 ((cxOf CX0 X.prog X.w X.K X.mg X.base NT "_law_tried" sc ft cdv A outer s H E0).nox).pinned pn E
noncomputable def TriedIs (st:Stmt):Prop:=∃ p1 p2 p3 p4 p5 p6 p7 p8 p9 p10 p11 p12 j,defBody st =
 [.Try [.Expr (.Call (.Name "_law_deed" p1) [] [] p2) p3] [.ExceptHandler (some (.Name "WardError" p4)) (some "_law_e") [.Return (some (.Call (.Name "_law_word" p5) [.Name "_law_e" p6] [] p7)) p8] p9] [] [] p10,.Return (some (.Constant (.str "") j p11)) p12]
inductive spWord (word:Addr→Option Str) (vs:List V) (H:Hp) (Q:VK) (x3_:XK):Prop
 | mk (e:_) (C:_) (x:_) (h0_:vs=[.ref e]) (h1_:IsExc H e C) (h2_:word C=some x) (h3_:∀ H',Same H H'→Q (.str x) H')
structure Tried (X:Cx) (st:Stmt) (ft:Addr) (fdt:FuncData) (W fw:Addr) (fdw:FuncData) (word:Addr→Option Str):Prop where
 fn:Fun X.K "_law_tried" "_law_tried" st ft fdt
 sc:FnScope NT ["_law_deed"] (defScope st)
 is:TriedIs st
 b:Binds X.K fdt ["_law_deed"] []
 m:X.mg "_law_tried"=some (.ref ft)
 mW:X.mg "WardError"=some (.ref W)
 mw:X.mg "_law_word"=some (.ref fw)
 kw:keepIn X.K (.ref fw)=true
 bw:Binds X.K fdw ["_law_e"] []
 ok:FnOkU X.prog X.w X.K X.mg X.base 1 fw fdw ["_law_e"] (spWord word)
 k0:(defScope st).names.lookup ("_law_deed" : Str)=some .local
 k1:(defScope st).names.lookup ("_law_e" : Str)=some .local
 k2:(defScope st).names.lookup ("WardError" : Str)=some .globalImplicit
 k3:(defScope st).names.lookup ("_law_word" : Str)=some .globalImplicit
 wk:∀ C x,word C=some x→exmOne X.K (.ref C) (.ref W)=some true
inductive ExW (word:Addr→Option Str) (Q:VK) (cls:Value) (H:Hp):Prop
 | mk (C:Addr) (x:Str) (h1:cls=.ref C) (h2:word C=some x) (q:∀ H',Same H H'→Q (.str x) H')
noncomputable def exWord (word:Addr→Option Str) (Q:VK):XK:=fun cls _ H=>ExW word Q cls H
section
variable {X:Cx}
theorem pe_lamcall {Y:Cx} {x:Str} {p pos:Pos} {i:Nat} {f:Addr} {H₁:Hp} {R:VK→Prop} {Ew:XK} (hN:Y.N[i]?=some x) (hv:Y.env.scope.names.lookup x=some .local) (hpass:Passes (CXE Y.prog Y.w) Y Ew)
  (run:∀ pins s σ Q,Inv Y pins σ H₁ s→R Q→FnAt f s.heap∧codeAny (model Y.prog Y.w) Y.A (.call (.ref f) ⟨[],[]⟩) (CR (CXE Y.prog Y.w) Y.stack Y.prog Y.w H₁ s Q Ew) s)
  (hd:(x==("__debug__" : Str))=false:=by decide) (hcd:(x==("__classdict__" : Str))=false:=by decide) :
  PE Y (.Call (.Name x p) [] [] pos) (fun σ H Q=>H=H₁∧σ[i]?=some (some (.ref f))∧R Q):=by
 intro pins s σ H Q I h
 obtain ⟨rfl,he,hq⟩:=h
 refine wpAny_Call_Name_kw (thn (pe_var hN (.inl hv) hd hcd pins s σ H (fun v H'=>v=.ref f∧H'=H) I ⟨_,he,rfl,rfl⟩) fun u s1 h1=>?_)
 obtain ⟨v,H',I1,r1,rfl,rfl⟩:=h1
 cases r1
 obtain ⟨fa,hc⟩:=run pins s1 σ Q I1 hq
 refine callWith_F0 fa (wpAny_call (codeAny_mono hc fun r s' hq'=>?_))
 cases r with
 | error e=>exact hpass pins σ H' s1 e s' I1 hq'
 | ok fl=>
  cases fl with
  | ret u=>exact I1.after hq'
  | next=>exact False.elim hq'
  | brk=>exact False.elim hq'
  | cont=>exact False.elim hq'
structure LamSc (scope:Scope) (NL:List Str):Prop where
 kind:scope.kind=.function
 co:scope.isCoroutine=false
 gen:scope.isGenerator=false
 cell:∀ x∈scope.names,x.2≠.cell
 nl:∀ x∈NL,scope.names.lookup x=some .free
inductive tTried (P:Addr) (pos:Pos) (q:Str) (word:Addr→Option Str) (js:List Nat) (te:XK→TE) (σ:St) (H:Hp) (Q:VK):Prop
 | mk (ps:_) (h0_:H P=some (.tbl ps)) (h1_:TriplesOk ps.toList) (h2_:codeAmong pos ps.toList=none) (h3_:∀ c' H1,H c'=none→c'≠P→H1=upd (upd H P (.tbl (ps++#[rawInt pos.line,rawInt pos.col,.ref c']))) c' (.ext (CodeIs c' q))→te (exWord word Q) (blkStart 0 js σ) H1 (fun _ H2=>Q (.str "") H2))
theorem pe_tried {st:Stmt} {ft W fw c P:Addr} {fdt fdw:FuncData} {word:Addr→Option Str} {params:Arguments} {body:Expr} {scope:Scope} {lpos p pos:Pos} {NL:List Str} {js:List Nat} {te:XK→TE} {k:Nat}
  (T:Tried X st ft fdt W fw fdw word) (hfn:∀ x,X.fn x=true) (hc:X.calm=true) (hr:Room (k+3) X.A) (hg:Gl X "_law_tried") (hcode:X.env.code=.ref c) (hcd:codeHdIn X.K c P=true) (bm:BMain X.mg X.base)
  (S:LamSc scope NL) (B:BlkNames X scope NL 0 js) (hdef:defaultsOf params X.env=([],[])) (hba:∀ cl pm c' ctv,bindArgs (kla_fn "<lambda>" (X.env.qual++"<lambda>") params body scope cl pm (.ref c') ctv) ⟨[],[]⟩=pure [])
  (hb:∀ (Ew:XK) cdv A outer s H pn E f c' s' H',Room k (cxLam (cxT X (defScope st) ft cdv A outer s H pn E) (X.env.qual++"<lambda>") scope f c' (closOf scope X.env) s' H' NL Ew).A →
   PE (cxLam (cxT X (defScope st) ft cdv A outer s H pn E) (X.env.qual++"<lambda>") scope f c' (closOf scope X.env) s' H' NL Ew) body (te Ew)) :
  PE X (.Call (.Name "_law_tried" p) [.Lambda params body scope lpos] [] pos) (tTried P lpos (X.env.qual++"<lambda>") word js te):=by
 intro pins s σ H Q I h
 obtain ⟨ps,hP,ht,hnf,hte⟩:=h
 refine wpAny_Call_Name_kw (ld_glob I hg T.m ?_)
 refine callWith_K (h₀:=X.base) I.ok.mod.kin T.fn.kp ?_ (starEach_plain rfl) rfl
 rw [starEach_plain rfl]
 show wpAny _ _ (spliced ((false,eval (.Lambda params body scope lpos) X.env)::backTo pos (starEach [] X.env))) _ _ s
 refine Calls.spliced_cons (lam_made I hcode hcd bm hP ht hnf hdef B.cel fun f c' pm ctv s1 I1 hc0 hcP hcf hcs hold hfo=>?_)
 refine Calls.spliced_nil ⟨I1.kIn,?_⟩
 generalize hH1:upd (upd H P (.tbl (ps++#[rawInt lpos.line,rawInt lpos.col,.ref c']))) c' (.ext (CodeIs c' (X.env.qual++"<lambda>")))=H1 at I1
 have hq:=hte c' H1 hc0 hcP hH1.symm
 have hcl:∀ n∈freeOf scope,∃ a,X.env.cells.lookup n=some a:=fun n hn=>I.ok.has n (B.cel n hn)
 have cl1:∀ x a,(closOf scope X.env).lookup x=some a→X.env.cells.lookup x=some a:=clos_lookup (freeOf scope) [] hcl fun x a e=>by simp at e
 have hfree:∀ x,scope.names.lookup x=some .free→x∈freeOf scope:=fun x e=>List.mem_map.mpr ⟨(x,.free),List.mem_filter.mpr ⟨PySem.mem_of_lookup e,by simp⟩,rfl⟩
 have h1none:∀ b,H b=none→b≠P→b≠c'→H1 b=none:=fun b n h1 h2=>by rw [← hH1,upd_ne h2,upd_ne h1]; exact n
 have hPs:P<s.heap.objs.size:=I.hok.lt hP
 have hsf:s.heap.objs.size≤f:=Nat.le_trans hcs (Nat.le_of_lt hcf)
 have stkLt:∀ b∈frs X.stack,b<s.heap.objs.size:=fun b hb=>by
  obtain ⟨_,o,ho,_⟩:=I.stack.mem hb
  exact Heap.lt_size ho
 have hcell:∀ x a,X.env.cells.lookup x=some a→a<s.heap.objs.size∧a≠P∧a≠c'∧a∉frs X.stack:=fun x a e=>by
  obtain ⟨v,hv⟩:=I.cell x a e
  have la:=hv.lt
  refine ⟨la,fun z=>?_,Nat.ne_of_lt (Nat.lt_of_lt_of_le la hcs),fun z=>?_⟩
  ·have:=I.freeC x a e
   rw [z,hP] at this
   cases this
  ·rcases List.mem_cons.mp (I.stkSub a z) with z | z
   ·exact I.cne x a e z
   ·obtain ⟨_,o,ho,_⟩:=I.ok.funs.mem z
    exact absurd (Nat.lt_of_lt_of_le (Heap.lt_size ho) (I.ok.cab x a (hfn x) e)) (Nat.lt_irrefl _)
 have L1:LamAt s1.heap H1 (frs X.stack) f c' (X.env.qual++"<lambda>") params body scope (closOf scope X.env) NL (blkStart 0 js σ):=by
  refine ⟨⟨pm,ctv,hfo⟩,h1none f (I.hok.fresh hsf) (Nat.ne_of_gt (Nat.lt_of_lt_of_le hPs hsf)) (Nat.ne_of_gt hcf),fun z=>?_,by rw [← hH1,upd_same],fun x y a e1 e2=>I.ok.inj x y a (cl1 x a e1) (cl1 y a e2),fun x a e=>?_,fun i x v e1 e2=>?_,?_⟩
  ·exact absurd (Nat.lt_of_lt_of_le (stkLt f z) hsf) (Nat.lt_irrefl _)
  ·have e':=cl1 x a e
   obtain ⟨la,n1,n2,n3⟩:=hcell x a e'
   obtain ⟨v,o,ho,hd⟩:=I.cell x a e'
   exact ⟨⟨v,o,hold a o n1 ho,hd⟩,h1none a (I.freeC x a e') n1 n2,n3⟩
  ·unfold blkStart at e2
   rw [List.replicate_zero,List.nil_append,List.getElem?_map] at e2
   cases hj:js[i]? with
   | none=>rw [hj] at e2; cases e2
   | some j=>
    rw [hj] at e2
    have e2:some ((σ[j]?).join)=some (some v):=e2
    have e3:σ[j]?=some (some v):=by
     cases z:σ[j]? with
     | none=>rw [z] at e2; cases e2
     | some y=>rw [z] at e2; cases y with
      | none=>cases e2
      | some y=>cases e2; rfl
    have e4:X.N[j]?=some x:=by rw [B.at' i j hj,Nat.zero_add]; exact e1
    obtain ⟨hfr,_⟩:=B.fre i x (Nat.zero_le _) e1
    have kx:=B.cel x hfr
    obtain ⟨m,hm,hl⟩:=I.loc
    obtain ⟨u,r,l⟩:=hl j x v e4 e3 (by rcases kx with z | z; exact .inr (.inl z); exact .inr (.inr z))
    rcases l with ⟨kk,_⟩ | ⟨kk,a,ea,o,ho,hd⟩
    ·rcases kx with k' | k' <;> rw [kk] at k' <;> cases k'
    ·obtain ⟨a',ha'⟩:=clos_has (env:=X.env) (freeOf scope) [] x (.inl hfr)
     have:=cl1 x a' ha'
     rw [ea] at this
     cases this
     exact ⟨a,u,ha',r,o,hold a o (hcell x a ea).2.1 ho,hd⟩
  ·unfold blkStart
   rw [List.replicate_zero,List.nil_append,List.length_map,B.len,Nat.zero_add]
 have SL:LamScope scope (closOf scope X.env) NL:=⟨S.kind,S.co,S.gen,S.cell,fun x e=>clos_has (env:=X.env) (freeOf scope) [] x (.inl (hfree x e)),S.nl⟩
 have hr1:Room (k+2+1) X.A:=hr
 have bt:BindsTo s1 fdt ⟨[.ref f],[]⟩ ((["_law_deed"]:List Str).zip [.ref f]):=by
  have:=T.b s1 [.ref f] I1.kIn rfl
  exact this
 refine wpAny_call (codeAny_mono (fn_run (CX:=CX0) (E:=E0) (Q:=Q) (vs:=[.ref f]) T.fn T.sc hr1 I1.env0 bt rfl (.cons rfl .nil) fun cdv hr2=>?_) fun r s' hq'=>?_)
 ·obtain ⟨p1,p2,p3,p4,p5,p6,p7,p8,p9,p10,p11,p12,j,hbod⟩:=T.is
  rw [hbod]
  have rw1:RoomU 1 (X.A.deeper (envOfC "_law_tried" (defScope st) s1.heap.objs.size ft cdv)):=⟨by have:=hr2.dp; omega,by have:=hr2.un; omega⟩
  let Y:Cx:=(cxOf CX0 X.prog X.w X.K X.mg X.base NT "_law_tried" (defScope st) ft cdv X.A X.stack s1 H1 E0).nox
  have run:∀ pn E,∀ (pl:List (Addr×Obj)) (s2:Shared) (σ2:St) (Q':VK),Inv (Y.pinned pn E) pl σ2 H1 s2→te (exWord word Q) (blkStart 0 js σ) H1 Q' →
    FnAt f s2.heap∧codeAny (model X.prog X.w) Y.A (.call (.ref f) ⟨[],[]⟩) (CR (CXE X.prog X.w) Y.stack X.prog X.w H1 s2 Q' (exWord word Q)) s2:=by
   intro pn E pl s2 σ2 Q' J hR
   have L2':=L1.stay (h':=s2.heap) (fr':=frs Y.stack) (fun b o e n hb=>J.base.keep b o e n hb (by show b∉([]:List Addr); simp)) (fun b o e hb z=>by
    rcases List.mem_cons.mp (show b∈s1.heap.objs.size::frs X.stack from z) with z | z
    ·exact absurd (Heap.lt_size e) (by rw [z]; exact Nat.lt_irrefl _)
    ·exact hb z)
   obtain ⟨pm',ctv',ho'⟩:=L2'.fn
   exact ⟨⟨_,_,_,_,ho'⟩,lam_run (X:=Y.pinned pn E) (k:=k) J L2' SL (hr2.mono (by omega)) (fun pm ctv=>hba _ pm c' ctv) (hb _ _ _ _ _ _ _ _ _ _ _ _ (Room.deeper (hr2.mono (by omega)) _)) hR⟩
  have try1:=ps_try (X:=Y) (x:="WardError") (n:="_law_e") (W:=W) (np:=p4) (hpos:=p9) (pos:=p10) (i:=1) (exWord word Q) ⟨rfl,rfl⟩ rfl T.sc.nd rfl T.k1 T.k2 T.mW
   (fun pn E hp=>pss_one (ps_expr (pos:=p3) (pe_lamcall (Y:=Y.pinned pn E) (x:="_law_deed") (p:=p1) (pos:=p2) (i:=0) (f:=f) (H₁:=H1) (R:=fun Q'=>te (exWord word Q) (blkStart 0 js σ) H1 Q') rfl T.k0 hp (run pn E)) rfl))
   (fun e pn=>pss_one (ps_ret (pos:=p8) (pe_callU (X:=Y.caught e pn) (x:="_law_word") (p:=p5) (pos:=p7) T.ok ⟨rw1.dp,rw1.un⟩ T.k3 T.mw T.kw T.bw (pac (pe_var (X:=Y.caught e pn) (x:="_law_e") (pos:=p6) (i:=1) rfl (.inl T.k1)) pa_nil))))
  refine ⟨_,PSs.nox (X:=cxOf CX0 X.prog X.w X.K X.mg X.base NT "_law_tried" (defScope st) ft cdv X.A X.stack s1 H1 E0) (pss_cons try1 (pss_one (ps_ret pe_str))),⟨rfl,rfl,hq⟩,?_⟩
  ·intro cls H2 ⟨C,x,e1,e2,e3⟩
   refine ⟨C,e1,T.wk C x e2,fun e σ1 hl he=>⟨_,?_,e,C,x,rfl,upd_same,e2,fun H3 sm=>e3 H3 fun b o z=>sm b o (by rw [upd_ne (ne_of_none z he)]; exact z)⟩⟩
   have hl2:σ1.length=2:=hl
   exact List.getElem?_set_self (by omega)
 ·cases r with
  | error e=>exact False.elim hq'
  | ok fl=>
   cases fl with
   | ret u=>exact I1.after hq'
   | next=>exact False.elim hq'
   | brk=>exact False.elim hq'
   | cont=>exact False.elim hq'
end
end L2
namespace L2
open PySem PySem.Spec PySem.Calls PyProof.Rows PySem.W
theorem law_callT {P:Program} {w:World} {K:Frag} {mg mb:Str→Option Value} {CX:CXT} {k:Nat} {fa a:Addr} {fd:FuncData} {x:Str} {sp:Sp} {s₁:Shared} {vs:List Value} {ns:List Int} {tabs:List (Addr×Addr)}
  (KX:K.In s₁.heap) (hns:s₁.heap.Ns mainGlobals mg) (hb:s₁.heap.Ns builtinsNs mb) (hbb:∀ x:Str,x≠"__name__" → mb x=bootBuiltins x) (hlim:s₁.heap.NoLimit) (hg:s₁.gens=#[])
  (htab:∀ q∈tabs,codeHdIn K q.1 q.2=true∧K.lookup q.2=none∧s₁.heap.get? q.2=some (tabObj #[]))
  (hbm:∃ bm ob,mg "__builtins__" = some (.ref bm)∧bm≠builtinsNs∧s₁.heap.get? bm=some ob∧ob.cls=.type "module" ∧ ob.dict=some builtinsNs∧ob.data=.plain)
  (ha:s₁.heap.get? a=some { cls:=.type "list",data:=.seq vs.toArray }) (hi:IntsAre vs ns) (hl:ns.length≤sizeLine) (hr:Room k callerA)
  (F:∀ base:Heap,K.In base→base.Ns mainGlobals mg→BMain mg base→FnOk P w K mg base CX k fa fd [x] sp) (hbind:∀ (s:Shared) (u:Value),BindsTo s fd ⟨[u],[]⟩ [(x,u)])
  (hsp:∀ H:Hp,(∀ q∈tabs,H q.2=some (.tbl #[]))→SqL K H a (ns.map V.int)→sp [.ref a] H (fun v _=>v=.bl true) fun _ _ _=>False)
  (hCX:∀ H e s',CX [] H s₁ (fun _ _ _=>False) e s'→False) :
  codeAny (model P w) callerA (.call (.ref fa) ⟨[.ref a],[]⟩) (fun r s'=>r=.ok (.ret (.bool true))∧OldK s₁.heap s'.heap∧s'.os=s₁.os∧AllBare s'.gens) s₁:=by
 have rv:=vals_ints hi
 have lenV:=hi.length
 have core:∀ H:Hp,SqL K H a (ns.map V.int)→HOk P w H s₁.heap→(∀ q∈tabs,H q.2=some (.tbl #[]))→(∀ b u,H b=some u→(∃ q∈tabs,b=q.2)∨(b=a∧K.lookup a=none∧∃ o ys,u=.frz o (.lst ys))) →
   codeAny (model P w) callerA (.call (.ref fa) ⟨[.ref a],[]⟩) (fun r s'=>r=.ok (.ret (.bool true))∧OldK s₁.heap s'.heap∧s'.os=s₁.os∧AllBare s'.gens) s₁:=by
  intro H hS hok hT hA
  -- what is tracked is the script or a table
  have noA:∀ {b:Addr} {o:Obj},s₁.heap.get? b=some o→(∀ ws,o.data≠.fields ws)→(∀ ws n,o.data≠.seq ws n)→H b=none:=fun {b o} e d1 d2=>by
   cases z:H b with
   | none=>rfl
   | some u=>
    rcases hA b u z with ⟨q,hq,rfl⟩ | ⟨rfl,_⟩
    ·have:=(htab q hq).2.2
     rw [e] at this
     cases this
     exact absurd rfl (d1 #[])
    ·rw [ha] at e
     cases e
     exact absurd rfl (d2 vs.toArray 0)
  have nsK:∀ {b:Addr} {m:Str→Option Value},s₁.heap.Ns b m→(hidT s₁.heap H).Ns b m:=fun {b m} ⟨o,es,ep,e,d,r⟩=>⟨o,es,ep,hidT_get e (noA e (fun ws z=>by rw [d] at z; cases z) fun ws n z=>by rw [d] at z; cases z),d,r⟩
  have hKb:K.In (hidT s₁.heap H):=fun b o e=>hidT_get (KX b o e) (by
   cases z:H b with
   | none=>rfl
   | some u=>
    rcases hA b u z with ⟨q,hq,rfl⟩ | ⟨rfl,hk,_⟩
    ·rw [(htab q hq).2.1] at e; cases e
    ·rw [hk] at e; cases e)
  have hM:Mod K mg (hidT s₁.heap H):=⟨hKb,nsK hns,⟨mb,nsK hb,hbb⟩,let ⟨mc,h1,h2⟩:=hlim; ⟨mc,nsK h1,h2⟩⟩
  have hB:BMain mg (hidT s₁.heap H):=by
   obtain ⟨bm,ob,b1,b2,b3,b4,b5,b6⟩:=hbm
   exact ⟨bm,ob,b1,b2,hidT_get b3 (noA b3 (fun ws z=>by rw [b6] at z; cases z) fun ws n z=>by rw [b6] at z; cases z),b4,b5,b6⟩
  have e0:Env0 P w K mg (hidT s₁.heap H) callerA [] s₁ H:=⟨rfl,hM,fun b o e=>of_hidT e,Nat.le_of_eq (hidT_size _ _),trivial,fun b hb=>absurd (show b∈([]:List Addr) from hb) (by simp),hok,.of_eq hg⟩
  refine codeAny_mono ((F _ hKb (nsK hns) hB).run callerA [] s₁ H ⟨[.ref a],[]⟩ [.ref a] [.ref a] _ _ hr e0 (hbind s₁ (.ref a)) (.cons rfl .nil) (hsp H hT hS)) fun r s' h=>?_
  cases r with
  | error e=>exact (hCX H e s' h).elim
  | ok fl=>
   cases fl with
   | next=>exact False.elim h
   | brk=>exact False.elim h
   | cont=>exact False.elim h
   | ret u=>
    obtain ⟨v,H',os,bare,un,hok',r',q⟩:=h
    have q':v=.bl true:=q
    subst q'
    obtain rfl:u=Value.bool true:=r'
    refine ⟨rfl,⟨fun b o e=>?_,fun b o e=>un.there b o e (by simp)⟩,os,bare⟩
    cases z:H b with
    | none=>exact .inl (un.keep b o e z (by intro y; exact absurd (show b∈([]:List Addr) from y) (by simp)) (by simp))
    | some u=>
     rcases hA b u z with ⟨q,hq,rfl⟩ | ⟨_,_,ob,ys,rfl⟩
     ·obtain ⟨hc,_,hP⟩:=htab q hq
      obtain ⟨more,z2⟩:=un.tbls q.2 #[] (hT q hq)
      have e2:s'.heap.get? q.2=some { cls:=.none,data:=.fields (#[]++more) }:=hok' q.2 _ z2
      rw [hP] at e
      cases e
      exact .inr (.inl ⟨((codeHd_of_K KX hc).tab hP).isCodeTable,rfl,#[],more,rfl,e2⟩)
     ·have z2:=un.frzs b ob _ z
      obtain ⟨e1,_⟩:=hok b _ z
      obtain ⟨e2,_⟩:=hok' b _ z2
      rw [e] at e1
      cases e1
      exact .inl e2
 have aT:∀ q∈tabs,q.2≠a:=fun q hq z=>by
  have:=(htab q hq).2.2
  rw [z,ha] at this
  cases this
 cases hk:K.lookup a with
 | some o=>
  have e:=KX a o hk
  rw [ha] at e
  cases e
  refine core (fun b=>if b∈tabs.map (·.2) then some (.tbl #[]) else none) (.inr ⟨_,vs.toArray,_,hk,rfl,rfl,rfl,by rw [List.size_toArray,lenV]; exact hl,by simpa using rv⟩) (fun b u z=>?_) (fun q hq=>if_pos (List.mem_map_of_mem hq)) fun b u z=>?_
  ·by_cases hb:b∈tabs.map (·.2)
   ·have z':=(if_pos hb).symm.trans z
    cases z'
    obtain ⟨q,hq,rfl⟩:=List.mem_map.mp hb
    exact (htab q hq).2.2
   ·have z':=(if_neg hb).symm.trans z
    cases z'
  ·by_cases hb:b∈tabs.map (·.2)
   ·obtain ⟨q,hq,rfl⟩:=List.mem_map.mp hb
    exact .inl ⟨q,hq,rfl⟩
   ·have z':=(if_neg hb).symm.trans z
    cases z'
 | none=>
  refine core (fun b=>if b∈tabs.map (·.2) then some (.tbl #[]) else if b=a then some (.frz { cls:=.type "list",data:=.seq vs.toArray } (.lst (ns.map V.int))) else none) ?_ (fun b u z=>?_) (fun q hq=>if_pos (List.mem_map_of_mem hq)) fun b u z=>?_
  ·refine .inl (.inr ⟨{ cls:=.type "list",data:=.seq vs.toArray },?_⟩)
   have na:a∉tabs.map (·.2):=fun z=>by
    obtain ⟨q,hq,e⟩:=List.mem_map.mp z
    exact aT q hq e
   exact (if_neg na).trans (if_pos rfl)
  ·by_cases hb:b∈tabs.map (·.2)
   ·have z':=(if_pos hb).symm.trans z
    cases z'
    obtain ⟨q,hq,rfl⟩:=List.mem_map.mp hb
    exact (htab q hq).2.2
   ·have z':=(if_neg hb).symm.trans z
    by_cases hba:b=a
    ·have z'':=(if_pos hba).symm.trans z'
     cases z''
     subst hba
     exact ⟨ha,by rw [List.length_map]; exact hl,vs,_,rv,ha⟩
    ·have z'':=(if_neg hba).symm.trans z'
     cases z''
  ·by_cases hb:b∈tabs.map (·.2)
   ·obtain ⟨q,hq,rfl⟩:=List.mem_map.mp hb
    exact .inl ⟨q,hq,rfl⟩
   ·have z':=(if_neg hb).symm.trans z
    by_cases hba:b=a
    ·have z'':=(if_pos hba).symm.trans z'
     cases z''
     exact .inr ⟨hba,hk,_,_,rfl⟩
    ·have z'':=(if_neg hba).symm.trans z'
     cases z''
theorem walk_ofT {l:OpenLaw} {n k:Nat} {q:Program} {loose:List Str} {XP:(Str→Option Value)→Heap→Prop} {YP:World→Heap→Prop} {d:DefRec} {K:Params→Frag} {sp:World→Sp} {x:Str} (tabs:List (Addr×Addr))
  (hn:l.most=some n) (hn2:n≤sizeLine) (hdf:d.params.defaults=[]) (hr:Room k callerA)
  (hY:∀ (w:World) (h:Heap),YP w h→(K w.params).In h∧∀ p∈tabs,h.get? p.2=some (tabObj #[]))
  (hK:∀ (w:World),∀ p∈tabs,codeHdIn (K w.params) p.1 p.2=true∧(K w.params).lookup p.2=none)
  (F:∀ (w:World) (mg:Str→Option Value) (fa:Addr) (h:Heap),(K w.params).In h→h.Ns mainGlobals mg→mg d.name=some (.ref fa) →
   ∃ fd:FuncData,(∀ (s:Shared) (u:Value),BindsTo s fd ⟨[u],[]⟩ [(x,u)]) ∧
    ∀ base:Heap,(K w.params).In base→base.Ns mainGlobals mg→BMain mg base→FnOk l.prog w (K w.params) mg base CX0 k fa fd [x] (sp w))
  (hsp:∀ (w:World) (H:Hp) (a:Addr) (ns:List Int),ns.length≤n→(∀ p∈tabs,H p.2=some (.tbl #[]))→SqL (K w.params) H a (ns.map V.int)→sp w [.ref a] H (fun v _=>v=.bl true) fun _ _ _=>False) :
  WalkO q loose XP YP l.row.toRowW d [] (fun f vs=>PySem.call f vs):=by
 refine Att.attach_call hn hdf fun w s₀ s₁ mg mb fa o pm cd doc a vs ns G Y ho hd hcd hmg hobj hints hlen hg=>?_
 obtain ⟨KX,hts⟩:=hY w _ Y
 obtain ⟨fd,hb,hF⟩:=F w mg fa _ KX G.T.g hmg
 exact law_callT (tabs:=tabs) KX G.T.g G.T.b G.T.builtins G.T.nolimit hg (fun p hp=>⟨(hK w p hp).1,(hK w p hp).2,hts p hp⟩) G.T.bmain hobj hints (Nat.le_trans hlen hn2) hr hF hb (fun H hT hS=>hsp w H a ns hlen hT hS) fun H e s' z=>z
end L2
namespace L2
open PySem PySem.Spec PySem.Calls PyProof.Rows PySem.W
section
variable {X:Cx}
theorem strsAre_of:∀ {ss:List Str} {us:List Value},Vals (ss.map V.str) us→StrsAre us ss
 | [],_,r=>by rw [List.map_nil] at r; cases r; exact .nil
 | x::ss,_,r=>by
  rw [List.map_cons] at r
  cases r with
  | cons r1 r2=>
   obtain ⟨t,rfl⟩:=r1
   exact .cons _ _ (strsAre_of r2)
theorem vals_strs:∀ {us:List Value} {ss:List Str},StrsAre us ss→Vals (ss.map V.str) us
 | _,_,.nil=>.nil
 | _,_,.cons _ t r=>.cons ⟨t,rfl⟩ (vals_strs r)
inductive SortedS (K:PySem.W.Frag) (xs:List V) (H:Hp) (Q:VK):Prop
 | mk (a:Addr) (ss:List Str) (h0_:xs=[.ref a]) (h1_:SqL K H a (ss.map V.str)) (h2_:ss.length<64) (h3_:∀ (p:Addr) (ss':List Str),H p=none→ss'.Perm ss→sortedS ss'=true→Q (.ref p) (upd H p (.lst (ss'.map V.str))))
theorem call_sortedS:CallR X (.builtin "sorted") (SortedS X.K):=by
 intro pins s σ H xs us Q I r h
 obtain ⟨a,ss,rfl,hs,h64,q⟩:=h
 obtain ⟨u,rfl,rx⟩:=vals1 r
 cases rx
 obtain ⟨its,rv,pl,hz⟩:=I.list hs
 have hl:its.length=ss.length:=by rw [← rv.length,List.length_map]
 refine sorted_strs pl.isList (strsAre_of rv) (by omega) fun out ss' a1 a2 a3=>?_
 obtain ⟨e,he⟩:=sortedAll_at s.heap its out
 have hn:H (s.heap.objs.size+1)=none:=I.hok.fresh (Nat.le_succ _)
 refine ⟨.ref (s.heap.objs.size+1),_,I.laid (t':=s.toks) (fun b o z=>sortedAll_old z) (Nat.le_succ _) ?_,rfl,q _ ss' hn a2 a3⟩
 have hl':ss'.length=ss.length:=a2.length_eq
 exact ⟨by rw [List.length_map,hl',sizeLine_eq]; omega,out.toList,e,vals_strs a1,he⟩
noncomputable def rStr:V→Hp→VK→Prop:=fun x H Q=>∃ z,x=.str z∧z.length≤sizeLine∧Q (.str z) H
theorem pe_fmt {e:Expr} {te:TE} {pos:Pos} (he:PE X e te):PE X (.FormattedValue e (-1) none pos) (tUn rStr te):=by
 intro pins s σ H Q I h
 refine FormattedValue_plain (thn (he pins s σ H _ I h) fun v s1 ⟨x,H1,I1,r1,z,e1,hz,q⟩=>?_)
 subst e1
 obtain ⟨t,rfl⟩:=r1
 exact formatField_str (fun t' tk=>⟨.str z,H1,I1.tok tk,⟨_,rfl⟩,q⟩) hz
noncomputable def tJoin:List TE→Str→TE
 | [],out=>fun _ H Q=>out.length≤sizeLine∧Q (.str out) H
 | t::r,out=>fun σ H Q=>t σ H fun x H1=>∃ y,x=.str y∧(out++y).length≤sizeLine∧tJoin r (out++y) σ H1 Q
noncomputable def PJ (X:Cx) (ps:List (Sem Value)) (ts:List TE):Prop:=
 ∀ (out:Str) (pins:List (Addr×Obj)) (s:Shared) (σ:St) (H:Hp) (Q:VK),Inv X pins σ H s→tJoin ts out σ H Q→wpAny (model X.prog X.w) X.A (joinParts out ps) (EP X pins σ Q) X.xe s
theorem pj_nil:PJ X [] []:=fun out pins s σ H Q I ⟨hz,q⟩=>joinParts_nil ⟨.str out,H,I.tok _,⟨_,rfl⟩,q⟩ hz
theorem pj_cons {e:Expr} {te:TE} {ps:List (Sem Value)} {ts:List TE} (he:PE X e te) (hr:PJ X ps ts):PJ X (eval e X.env::ps) (te::ts):=by
 intro out pins s σ H Q I h
 refine joinParts_cons (thn (he pins s σ H _ I h) fun v s1 ⟨x,H1,I1,r1,y,e1,hz,q⟩=>?_)
 subst e1
 obtain ⟨t,rfl⟩:=r1
 exact ⟨hz,hr _ pins s1 σ H1 Q I1 q⟩
theorem pe_join3 {a b c:Expr} {ta tb tc:TE} {pos:Pos} (ha:PE X a ta) (hb:PE X b tb) (hc:PE X c tc):PE X (.JoinedStr [a,b,c] pos) (tJoin [ta,tb,tc] Str.empty):=by
 intro pins s σ H Q I h
 exact JoinedStr_many ((pj_cons ha (pj_cons hb (pj_cons hc pj_nil))) Str.empty pins s σ H Q I h)
end
end L2
namespace L2
open PySem PySem.Spec PySem.Calls PyProof.Rows PySem.W
noncomputable def Ite (K:Frag) (a:Addr):It:=
 ⟨fun i H=>∃ xs x,SqL K H a xs∧xs[i]?=some x,fun i H y H'=>∃ (t:Addr) (x:V),H t=none∧y=.ref t∧H'=upd H t (.tup [.int i,x])∧∀ xs,SqL K H a xs→xs[i]?=some x,fun i H=>∃ xs,SqL K H a xs∧xs.length≤i⟩
theorem turn_enum {P:Program} {w:World} {K:Frag} {elts:List Expr} {x1:Nat} {tpos:Pos} (a e it:Addr) (hne:e≠it) :
  Turn P w K (.Tuple elts x1 tpos) (Ite K a) [e,it] e (fun i h=>(∃ old,IsEnum h e it i old)∧h.IsListIter it a i) where
 mem:=by simp
 obj:=fun i h st b hb=>by
  obtain ⟨⟨old,h1⟩,o,h2,c,d⟩:=st
  rcases List.mem_cons.mp hb with rfl | hb
  ·exact ⟨_,h1,fun v z=>by cases z⟩
  ·have e':b=it:=by simpa using hb
   subst e'
   exact ⟨o,h2,fun v z=>by rw [d] at z; cases z⟩
 keep:=fun i h h' st k=>by
  obtain ⟨⟨old,h1⟩,h2⟩:=st
  exact ⟨⟨old,k e (by simp) _ h1⟩,h2.at fun o z=>k it (by simp) o z⟩
 item:=by
  intro X hP hw hK hc i pins s σ H E I hf st hg
  subst hP hw hK
  obtain ⟨xs,x,hq,hx⟩:=hg
  obtain ⟨its,rv,p,hz⟩:=I.list hq
  obtain ⟨u,hu,ru⟩:=rv.get hx
  obtain ⟨⟨old,he⟩,hit⟩:=st
  have fe:=hf e (by simp)
  have fi:=hf it (by simp)
  refine wpAny_pyNext_enum_item he hit p.isList (x:=u) (by simpa using hu) hne fun h1 eo hit1 htup hsz hk=>⟨.ref s.heap.objs.size,rfl,wpAny_letOwnedTupleGo_enum eo fun h2 en sb=>?_⟩
  have hn:H s.heap.objs.size=none:=I.hok.fresh (Nat.le_refl _)
  have nes:e≠s.heap.objs.size:=Nat.ne_of_lt (Heap.lt_size he)
  have kp:∀ b o,b≠e→b≠it→s.heap.get? b=some o→h2.get? b=some o:=fun b o n1 n2 z=>(sb.2 b n1).trans (hk b o n1 n2 z)
  have nH:∀ b v,H b=some v→b≠e∧b≠it:=fun b v z=>⟨fun y=>(by rw [y,fe.1] at z; cases z),fun y=>(by rw [y,fi.1] at z; cases z)⟩
  have nS:∀ b v,H b=some v→b≠s.heap.objs.size:=fun b v z=>ne_of_none z hn
  have I2:Inv X pins σ (upd H s.heap.objs.size (.tup [.int i,x])) { s with heap:=h2,toks:=s.toks+1 }:=by
   refine I.step (g':=s.gens) (d':=s.drawn) (ch:=[e,it]) (fun b hb=>?_) (fun b o _ _ hc z _=>kp b o (fun y=>hc (by simp [y])) (fun y=>hc (by simp [y])) z) (fun b o _ _ hc z _=>⟨o.slots,kp b o (fun y=>hc (by simp [y])) (fun y=>hc (by simp [y])) z⟩)
    (fun b o _ z n=>by rw [upd_ne (Nat.ne_of_lt (Heap.lt_size z))]; exact n) (fun b o hc z=>⟨o,kp b o (fun y=>hc (by simp [y])) (fun y=>hc (by simp [y])) z⟩) (fun b ys z=>by rw [upd_ne (nS b _ z)]; exact z) (fun b o v z=>by rw [upd_ne (nS b _ z)]; exact z)
    (fun b ps z=>⟨#[],by rw [upd_ne (nS b _ z),z]; simp⟩) (fun m hm=>?_) (fun b v z=>?_) I.bare
   ·rcases List.mem_cons.mp hb with rfl | hb
    ·exact ⟨fe.2.2.2.1,fe.2.1,fe.2.2.2.2.1,fe.2.2.2.2.2⟩
    ·have e':b=it:=by simpa using hb
     subst e'
     exact ⟨fi.2.2.2.1,fi.2.1,fi.2.2.2.2.1,fi.2.2.2.2.2⟩
   ·obtain ⟨o,es,ep,ho,r⟩:=hm
    exact ⟨o,es,ep,kp _ o (Ne.symm fe.2.1) (Ne.symm fi.2.1) ho,r⟩
   ·by_cases hb:b=s.heap.objs.size
    ·subst hb
     rw [upd_same] at z
     cases z
     exact ⟨by show 2≤sizeLine; decide,[.int i s.toks,u],.cons ⟨_,rfl⟩ (.cons ru .nil),⟨_,(sb.2 _ (Ne.symm nes)).trans htup,rfl,_,rfl⟩⟩
    ·rw [upd_ne hb] at z
     refine (I.hok b v z).stay (fun c y hc q=>kp c y ?_ ?_ q) (fun c q=>by rw [upd_ne (nS c _ q)]; exact q) fun c ys q=>by rw [upd_ne (nS c _ q)]; exact q
     ·rcases hc with rfl | hc
      ·exact (nH c v z).1
      ·exact (nH c _ hc).1
     ·rcases hc with rfl | hc
      ·exact (nH c v z).2
      ·exact (nH c _ hc).2
  refine ⟨.ref s.heap.objs.size,_,I2,rfl,⟨s.heap.objs.size,x,hn,rfl,rfl,fun ys hy=>by rw [I.list_inj hy hq]; exact hx⟩,⟨⟨u,en⟩,?_⟩,fun b hb=>?_⟩
  ·obtain ⟨o,z,c,d⟩:=hit1
   exact ⟨o,(sb.2 it (Ne.symm hne)).trans z,c,d⟩
  ·rw [upd_ne ?_]
   ·exact (hf b hb).1
   ·rcases List.mem_cons.mp hb with rfl | hb
    ·exact nes
    ·have e':b=it:=by simpa using hb
     subst e'
     obtain ⟨o,z,_⟩:=hit
     exact Nat.ne_of_lt (Heap.lt_size z)
 done:=by
  intro X hP hw hK hc i pins s σ H E I hf st hg
  subst hP hw hK
  obtain ⟨xs,hq,hlen⟩:=hg
  obtain ⟨its,rv,p,hz⟩:=I.list hq
  obtain ⟨⟨old,he⟩,hit⟩:=st
  have fi:=hf it (by simp)
  have hl:=rv.length
  have hn:its.toArray[i]?=none:=by
   rw [List.getElem?_toArray]
   exact List.getElem?_eq_none_iff.mpr (by omega)
  exact wpAny_pyNext_enum_end (I.ok.hd hc) he hit p.isList hn fun h' ext=>⟨rfl,I.turned (t':=s.toks) (fun b o hb z=>ext b o hb z) fi.1 fi.2.1 fi.2.2.2.1 fi.2.2.2.2.1 fi.2.2.2.2.2⟩
 self:=fun _ i s _ _ ⟨⟨_,h1⟩,_⟩ h=>wpAny_pyIter_enum h1 h
section
variable {X:Cx} {elts:List Expr} {x1:Nat} {tpos:Pos}
inductive IsEn (K:Frag) (vs:List V) (H1:Hp) (R:It→Hp→Prop):Prop
 | mk (a:Addr) (h1:vs=[.ref a]) (h2:∃ xs,SqL K H1 a xs) (r:R (Ite K a) H1)
noncomputable def iEnum (K:Frag) (ta:TA):TI:=fun σ H R=>ta σ H fun vs H1=>IsEn K vs H1 R
theorem pi_enum {l:Expr} {ta:TA} {p pos:Pos} (hg:Gl X "enumerate") (hm:X.mg "enumerate" = none) (ha:PA X [l] ta) (hs:isStar l=false:=by rfl):PI X (.Tuple elts x1 tpos) (.Call (.Name "enumerate" p) [l] [] pos) (iEnum X.K ta):=by
 intro pins s σ H R I h
 have he:starEach [l] X.env=[(false,eval l X.env)]:=starEach_plain hs
 refine Call_ (ld_blt I hg hm Bo.enumerate (PyProof.Rows.callWith_type1 (thn (ha pos pins s σ H _ I h) fun us s1 ⟨vs,H1,I1,r1,a,e1,⟨xs,hq⟩,q⟩=>?_) he rfl))
 subst e1
 obtain ⟨u,rfl,rx⟩:=vals1 r1
 cases rx
 obtain ⟨its,rv,pl,hz⟩:=I1.list hq
 refine call_enumerate_list pl.isList fun h' h1 h2 h3 h4=>?_
 have I2:Inv X pins σ H1 { s1 with heap:=h' }:=I1.kept (t':=s1.toks) h4
 refine wpAny_pyIter_enum h1 ⟨s1.heap.objs.size+1,[s1.heap.objs.size+1,s1.heap.objs.size],_,Ite X.K a,H1,rfl,I2,turn_enum a _ _ (Nat.succ_ne_self _),⟨⟨_,h1⟩,h2⟩,fun b hb=>?_,q⟩
 have hge:s1.heap.objs.size≤b:=by
  rcases List.mem_cons.mp hb with rfl | hb
  ·exact Nat.le_succ _
  ·have e':b=s1.heap.objs.size:=by simpa using hb
   rw [e']
   exact Nat.le_refl _
 exact I1.fpOk hge (I1.hok.fresh hge)
theorem blk_enum {K:Frag} {a D:Addr} {xs:List V} {g:TG} {tc:TT} {te:TE} {R:Hp→Prop} {σ:St} {H:Hp} (Pv:Nat→St→Hp→Prop) (h0:Pv 0 σ H)
  (hl:∀ i σ H,i≤xs.length→Pv i σ H→SqL K H a xs)
  (hs:∀ i x σ H t,xs[i]?=some x→Pv i σ H→H t=none→g (.ref t) σ (upd H t (.tup [.int i,x])) fun σ2 H2=>tc σ2 H2 fun b H3=>if b=true then te σ2 H3 fun y H4=>∃ ys,H4 D=some (.lst ys)∧ys.length<sizeLine∧Pv (i+1) σ2 (upd H4 D (.lst (ys++[y]))) else Pv (i+1) σ2 H3)
  (hd:∀ σ H,Pv xs.length σ H→R H):tBlk (Ite K a) D g tc te R σ H:=by
 refine ⟨fun i m σ H=>m=xs.length-i∧i≤xs.length∧Pv i σ H,⟨xs.length,by simp,Nat.zero_le _,h0⟩,?_⟩
 rintro i m σ H ⟨rfl,hi,p⟩
 have q:=hl i σ H hi p
 by_cases hlt:i<xs.length
 ·refine .inr ⟨⟨xs,xs[i],q,by simp [hlt]⟩,Pv (i+1),fun σ' H' p'=>⟨xs.length-(i+1),by omega,rfl,hlt,p'⟩,fun x H' y=>?_⟩
  obtain ⟨t,v,ht,rfl,rfl,hv⟩:=y
  exact hs i v σ H t (hv xs q) p ht
 ·have e:i=xs.length:=by omega
  subst e
  exact .inl ⟨⟨xs,q,Nat.le_refl _⟩,hd σ H p⟩
theorem for_enum {K:Frag} {a:Addr} {xs:List V} {g:TG} {tb:TS} {D:Ends} {σ:St} {H:Hp} (Pv:Nat→St→Hp→Prop) (h0:Pv 0 σ H) (hl:∀ i σ H,i≤xs.length→Pv i σ H→SqL K H a xs)
  (hs:∀ i x σ H t,xs[i]?=some x→Pv i σ H→H t=none→g (.ref t) σ (upd H t (.tup [.int i,x])) fun σ2 H2=>tb { D with nx:=Pv (i+1),ct:=Pv (i+1),bk:=D.nx } σ2 H2) (hd:∀ σ H,Pv xs.length σ H→D.nx σ H) :
  ∃ W:Nat→Nat→St→Hp→Prop,(∃ m,W 0 m σ H)∧∀ i m σ H,W i m σ H →
   ((Ite K a).stop i H∧D.nx σ H)∨((Ite K a).go i H∧∃ N:St→Hp→Prop,(∀ σ' H',N σ' H'→∃ m',m'<m∧W (i+1) m' σ' H')∧∀ x H',(Ite K a).yld i H x H'→g x σ H' fun σ2 H2=>tb { D with nx:=N,ct:=N,bk:=D.nx } σ2 H2):=by
 refine ⟨fun i m σ H=>m=xs.length-i∧i≤xs.length∧Pv i σ H,⟨xs.length,by simp,Nat.zero_le _,h0⟩,?_⟩
 rintro i m σ H ⟨rfl,hi,p⟩
 have q:=hl i σ H hi p
 by_cases hlt:i<xs.length
 ·refine .inr ⟨⟨xs,xs[i],q,by simp [hlt]⟩,Pv (i+1),fun σ' H' p'=>⟨xs.length-(i+1),by omega,rfl,hlt,p'⟩,fun x H' y=>?_⟩
  obtain ⟨t,v,ht,rfl,rfl,hv⟩:=y
  exact hs i v σ H t (hv xs q) p ht
 ·have e:i=xs.length:=by omega
  subst e
  exact .inl ⟨⟨xs,q,Nat.le_refl _⟩,hd σ H p⟩
end
end L2
namespace L2
open PySem PySem.Spec PySem.Calls PyProof.Rows PySem.W
section
variable {X:Cx}
theorem keyV_of {k:Key} {v:Value} (h:keyIs k v=true):RelV (kV k) v:=by
 rcases keyIs_shape h with ⟨i,t,rfl,rfl⟩ | ⟨x,t,rfl,rfl⟩
 ·exact ⟨t,rfl⟩
 ·exact ⟨t,rfl⟩
theorem keys_vals:∀ {kvs:List (Key×V)} {vs:List (Key×Value)} {us:List Value},KV kvs vs→us.length=vs.length→(∀ (j:Nat) (u:Value),us[j]?=some u→∃ k x,vs[j]?=some (k,x)∧keyIs k u=true)→Vals (kvs.map fun kv=>kV kv.1) us
 | [],_,us,r,hl,_=>by
  unfold KV at r
  cases r
  have:us=[]:=List.length_eq_zero_iff.mp hl
  subst this
  exact .nil
 | p::kvs,_,us,r,hl,h=>by
  unfold KV at r
  cases r with
  | @cons a b as bs h1 h2=>
   cases us with
   | nil=>simp at hl
   | cons u us=>
    refine .cons ?_ (keys_vals (vs:=bs) h2 (by simpa using hl) fun j v e=>?_)
    ·obtain ⟨k,x,e1,e2⟩:=h 0 u rfl
     have e1:some b=some (k,x):=e1
     cases e1
     show RelV (kV p.1) u
     rw [show p.1=k from h1.1]
     exact keyV_of e2
    ·obtain ⟨k,x,e1,e2⟩:=h (j+1) v (by simpa using e)
     exact ⟨k,x,by simpa using e1,e2⟩
theorem range_all_eq {α:Type} [DecidableEq α]:∀ (xs ys:List α),xs.length=ys.length→((List.range xs.length).all fun j=>decide (xs[j]?=ys[j]?))=decide (xs=ys):=by
 intro xs ys hl
 rw [Bool.eq_iff_iff,List.all_eq_true,decide_eq_true_iff]
 constructor
 ·intro h
  refine List.ext_getElem? fun i=>?_
  by_cases hi:i<xs.length
  ·exact of_decide_eq_true (h i (List.mem_range.mpr hi))
  ·rw [List.getElem?_eq_none_iff.mpr (by omega),List.getElem?_eq_none_iff.mpr (by omega)]
 ·rintro rfl j _
  exact decide_eq_true rfl
theorem strs_eqAt {A:Around} {s:Shared} {ss ts:List Str} {us ws:List Value} (r:Vals (ss.map V.str) us) (r':Vals (ts.map V.str) ws) (hl:ss.length=ts.length) :
  ∀ j (h1:j<us.toArray.size) (h2:j<ws.toArray.size),SeqAt.EqAt A s us.toArray[j] ws.toArray[j] (decide (ss[j]?=ts[j]?)):=by
 intro j h1 h2
 have l1:=r.length
 have l2:=r'.length
 rw [List.length_map] at l1 l2
 have g1:j<ss.length:=by rw [l1]; simpa using h1
 have g2:j<ts.length:=by rw [l2]; simpa using h2
 obtain ⟨u,e1,q1⟩:=r.get (i:=j) (x:=.str ss[j]) (by simp [g1])
 obtain ⟨v,e2,q2⟩:=r'.get (i:=j) (x:=.str ts[j]) (by simp [g2])
 obtain ⟨t,rfl⟩:=q1
 obtain ⟨t',rfl⟩:=q2
 have f1:us.toArray[j]=.str ss[j] t:=by
  have:us[j]?=some us.toArray[j]:=by simp
  rw [e1] at this
  exact (Option.some.inj this).symm
 have f2:ws.toArray[j]=.str ts[j] t':=by
  have:ws[j]?=some ws.toArray[j]:=by simp
  rw [e2] at this
  exact (Option.some.inj this).symm
 rw [f1,f2]
 have eb:decide (ss[j]?=ts[j]?)=decide (ss[j]=ts[j]):=by simp [g1,g2]
 rw [eb]
 intro prog w E Q hq
 exact wpAny_eqBool_str hq
inductive rEqSs (K:Frag) (neg:Bool) (x:V) (y:V) (H:Hp) (Q:VK):Prop
 | mk (a b:Addr) (ss ts:List Str) (h0_:x=.ref a) (h1_:y=.ref b) (h2_:SqL K H a (ss.map V.str)) (h3_:SqL K H b (ts.map V.str)) (h4_:Q (.bl (if neg then !decide (ss=ts) else decide (ss=ts))) H)
theorem op_eqSs (hu:X.A.units<cLine):OpR X (compareOp .Eq) (rEqSs X.K false):=by
 intro pins s σ H x y v u Q I rx ry h
 obtain ⟨a,b,ss,ts,rfl,rfl,ha,hb,q⟩:=h
 cases rx
 cases ry
 obtain ⟨us,r1,p1,_⟩:=I.list ha
 obtain ⟨ws,r2,p2,_⟩:=I.list hb
 have l1:=r1.length
 have l2:=r2.length
 rw [List.length_map] at l1 l2
 by_cases hl:ss.length=ts.length
 ·refine SeqAt.eq_listAt p1.isList p2.isList (by simp; omega) hu (strs_eqAt r1 r2 hl) ⟨.bl (decide (ss=ts)),H,I,?_,q⟩
  rw [List.size_toArray,← l1,range_all_eq ss ts hl]
  rfl
 ·refine SeqAt.eq_list_lengthsAt p1.isList p2.isList (by simp; omega) hu ⟨.bl (decide (ss=ts)),H,I,?_,q⟩
  rw [decide_eq_false fun z=>hl (by rw [z])]
  rfl
theorem op_neSs (hu:X.A.units<cLine):OpR X (compareOp .NotEq) (rEqSs X.K true):=by
 intro pins s σ H x y v u Q I rx ry h
 obtain ⟨a,b,ss,ts,rfl,rfl,ha,hb,q⟩:=h
 cases rx
 cases ry
 obtain ⟨us,r1,p1,_⟩:=I.list ha
 obtain ⟨ws,r2,p2,_⟩:=I.list hb
 have l1:=r1.length
 have l2:=r2.length
 rw [List.length_map] at l1 l2
 by_cases hl:ss.length=ts.length
 ·refine SeqAt.RcNeAt.lists p1.isList p2.isList (by simp; omega) hu (strs_eqAt r1 r2 hl) X.prog X.w X.xe _ ⟨.bl (!decide (ss=ts)),H,I,?_,q⟩
  rw [List.size_toArray,← l1,range_all_eq ss ts hl]
  rfl
 ·refine SeqAt.RcNeAt.lists_lengths p1.isList p2.isList (by simp; omega) hu X.prog X.w X.xe _ ⟨.bl (!decide (ss=ts)),H,I,?_,q⟩
  rw [decide_eq_false fun z=>hl (by rw [z])]
  rfl
end
end L2
namespace L2
open PySem PySem.Spec PySem.Calls PyProof.Rows PySem.W
section
variable {X:Cx}
inductive SortedD (xs:List V) (H:Hp) (Q:VK):Prop
 | mk (d:Addr) (kvs:List (Key×V)) (ss:List Str) (h0_:xs=[.ref d]) (h1_:H d=some (.dK kvs)) (h2_:kvs.map (fun kv=>kV kv.1)=ss.map V.str) (h3_:ss.length<64) (h4_:∀ (p:Addr) (ss':List Str),H p=none→ss'.Perm ss→sortedS ss'=true→Q (.ref p) (upd H p (.lst (ss'.map V.str))))
theorem call_sortedD (hc:X.calm=true):CallR X (.builtin "sorted") SortedD:=by
 intro pins s σ H xs us Q I r h
 obtain ⟨d,kvs,ss,rfl,hd,hks,h64,q⟩:=h
 obtain ⟨u,rfl,rx⟩:=vals1 r
 cases rx
 obtain ⟨hz,lo,vs,rel,dd⟩:=dk_of I.hok hd
 obtain ⟨ep,hat⟩:=dd.dictAt
 have hl:kvs.length=vs.length:=Paired.length rel
 have hls:kvs.length=ss.length:=by
  have:=congrArg List.length hks
  simpa using this
 refine call_function_entry kind_sorted plain_sorted entry_sorted (args_sorted1 _) ?_
 unfold Builtin.«sorted»
 refine wpAny_bind (m:=checkCount "sorted" 1 1 _) (wpAny_pure ?_)
 refine wpAny_bind (kdu_collect (A:=X.A.in1) (kdl_dict (knd:=mixKind X.prog X.w) (kvs:=vs) (ep:=ep) lo) (I.ok.hd hc) hat (by omega) fun h' tk acc hk hacc=>?_)
 have hal:acc.toList.length=vs.length:=by rw [Array.length_toList]; exact hacc.1
 have rv:Vals (ss.map V.str) acc.toList:=by
  rw [← hks]
  exact keys_vals rel hal fun j v e=>hacc.2 j v (by rw [← Array.getElem?_toList]; exact e)
 have hS:=strsAre_of rv
 refine wpAny_bind (wpAny_newList ?_ (by rw [hal]; omega))
 have hoL:(h'.push (seqObj "list" acc.toList.toArray 0)).get? h'.objs.size=some (seqObj "list" acc.toList.toArray 0):=Heap.get?_push_size _ rfl
 refine wpAny_bind (wpAny_holding (wpAny_call_entry slot_list_sort ⟨_,hoL,rfl⟩ entry_list_sort (list_sort_treeK strKind_oneLt hoL hS.keysOf (fun v₁ v₂ rest e=>keyKind_strs (by rw [← e]; exact hS)) (by rw [hal]; omega) fun st' a1 a2=>⟨_,rfl,?_⟩) (args_list_sort _)))
 obtain ⟨ss',b1,b2,b3⟩:=sorted_out_str hS a1 a2
 refine wpAny_pure ⟨_,rfl,?_⟩
 have I1:Inv X pins σ H { s with heap:=h',toks:=tk }:=I.kept (t':=tk) hk
 have hn:H h'.objs.size=none:=I1.hok.fresh (Nat.le_refl _)
 obtain ⟨e,he⟩:=sortedHeap_at (vs:=acc.toList) (out:=(arrOf st').map (·.2)) hoL
 refine ⟨.ref h'.objs.size,_,I1.laid (t':=tk) (fun b o z=>?_) (Nat.le_refl _) ?_,rfl,q _ ss' hn b2 b3⟩
 ·have hb:b<h'.objs.size:=Heap.lt_size z
  rw [sortedHeap_old (Nat.ne_of_lt hb) (by rw [size_push']; exact Nat.lt_succ_of_lt hb)]
  exact Heap.get?_push_of_some _ z
 ·exact ⟨by rw [List.length_map,b2.length_eq,sizeLine_eq]; omega,_,e,vals_strs b1,he⟩
end
end L2
namespace L2
open PySem PySem.Spec PySem.Calls PyProof.Rows PySem.W
section
variable {X:Cx} {pins:List (Addr×Obj)} {σ:St} {H:Hp} {s:Shared} {d:Addr} {kvs:List (Key×V)}
theorem Inv.freeze (I:Inv X pins σ H s) (e:H d=some (.dK kvs)):∃ o,Inv X pins σ (upd H d (.frz o (.dK kvs))) s:=by
 have hO:=I.hok d _ e
 obtain ⟨o,ho⟩:=hO.ex
 have ne:∀ b u,H b=some u→(∀ k,u≠.dK k)→(upd H d (.frz o (.dK kvs))) b=some u:=fun b u z n=>by
  rw [upd_ne (fun y=>by rw [y,e] at z; cases z; exact n kvs rfl)]
  exact z
 refine ⟨o,I.step (h':=s.heap) (g':=s.gens) (d':=s.drawn) (t':=s.toks) (ch:=[]) (fun b hb=>nomatch hb) (fun b u _ _ _ z _=>z) (fun b u _ _ _ z _=>⟨u.slots,z⟩)
  (fun b u _ _ n=>by rw [upd_ne (fun y=>by rw [y,e] at n; cases n)]; exact n) (fun b u _ z=>⟨u,z⟩) (fun b xs z=>ne b _ z fun k y=>by cases y) (fun b u v z=>ne b _ z fun k y=>by cases y)
  (fun b ps z=>⟨#[],by rw [ne b _ z fun k y=>by cases y]; simp⟩) (fun m hm=>hm) (fun b u z=>?_) I.bare⟩
 by_cases hb:b=d
 ·subst hb
  rw [upd_same] at z
  cases z
  exact ⟨ho,hO⟩
 ·rw [upd_ne hb] at z
  exact (I.hok b u z).stay (fun c y _ q=>q) (fun c q=>ne c _ q fun k y=>by cases y) fun c ys q=>ne c _ q fun k y=>by cases y
inductive IsFz (v:V) (H':Hp) (Q:VK):Prop
 | mk (d:Addr) (kvs:List (Key×V)) (h1:v=.ref d) (h2:H' d=some (.dK kvs)) (q:∀ o,Q v (upd H' d (.frz o (.dK kvs))))
noncomputable def tFreeze (t:TE):TE:=fun σ H Q=>t σ H fun v H'=>IsFz v H' Q
theorem pe_freeze {e:Expr} {t:TE} (h:PE X e t):PE X e (tFreeze t):=by
 intro pins s σ H Q I q
 refine thn (h pins s σ H _ I q) fun v s1 ⟨x,H1,I1,r1,d,kvs,e1,e2,q1⟩=>?_
 obtain ⟨o,I2⟩:=I1.freeze e2
 exact ⟨x,_,I2,r1,q1 o⟩
end
section
variable {X:Cx} {tg:Expr}
end
end L2
namespace L2
open PySem PySem.Spec PySem.Calls PyProof.Rows PySem.W
section
variable {X:Cx}
end
end L2
namespace L2
open PySem PySem.Spec PySem.Calls PyProof.Rows PySem.W
section
variable {X:Cx} {pins:List (Addr×Obj)} {σ:St} {H:Hp} {s:Shared}
theorem lam_hit {params:Arguments} {body:Expr} {scope:Scope} {pos:Pos} {c c' P:Addr} {ps:Array Value} {Q:Value→Shared→Prop} {E:Value→Shared→Prop} (I:Inv X pins σ H s) (hcode:X.env.code=.ref c) (hc:codeHdIn X.K c P=true) (bm:BMain X.mg X.base)
  (hP:H P=some (.tbl ps)) (ht:TriplesOk ps.toList) (hf:codeAmong pos ps.toList=some (.ref c')) (hdef:defaultsOf params X.env=([],[])) (hfr:∀ n∈freeOf scope,X.env.kindOf n=some .cell∨X.env.kindOf n=some .free)
  (k:∀ (f:Addr) (pm ctv:Value) (s1:Shared),Inv X pins σ H s1→s.heap.objs.size≤f→(∀ b o,s.heap.get? b=some o→s1.heap.get? b=some o) →
   s1.heap.get? f=some (kla_obj "<lambda>" (X.env.qual++"<lambda>") params body scope (closOf scope X.env) pm c' ctv)→Q (.ref f) s1) :
  wpAny (model X.prog X.w) X.A (eval (.Lambda params body scope pos) X.env) Q E s:=by
 have hcl:closureFor scope X.env=pure (closOf scope X.env):=closureFor_eq fun n hn=>I.ok.has n (hfr n hn)
 obtain ⟨b,ob,b1,b2,b3,b4,b5,b6⟩:=bm
 have hg:s.heap.Ns mainGlobals X.mg:=I.mod.glob.keeps I.bk
 have bP:∀ d o,X.base.get? d=some o→d≠P:=fun d o e z=>by have:=(I.bs d o e).2; rw [z,hP] at this; cases this
 have hbG:b≠mainGlobals:=fun z=>by
  obtain ⟨o,es,ep,e,hd,_⟩:=I.mod.glob
  rw [z,e] at b3
  cases b3
  rw [hd] at b6
  cases b6
 have hob:s.heap.get? P=some (tabObj ps):=I.hok P _ hP
 refine kla_eval hdef (kla_makeFunctionHit (mg:=X.mg) hcl I.ok.glob hg hcode (codeHd_of_K I.kIn hc) hob ht hf ⟨b,ob,b1,b2,hbG,bP _ _ b3,I.bk _ _ b3,b4,b5,b6⟩ fun ctv h' tk hx hge=>?_)
 exact k h'.objs.size _ ctv _ (I.kept (t':=tk) fun d o e=>Heap.get?_push_of_some _ (hx d o e)) hge (fun d o e=>Heap.get?_push_of_some _ (hx d o e)) (Heap.get?_push_size _ rfl)
end
section
variable {X:Cx}
inductive tTriedHit (P:Addr) (pos:Pos) (q:Str) (word:Addr→Option Str) (js:List Nat) (te:XK→TE) (σ:St) (H:Hp) (Q:VK):Prop
 | mk (ps:_) (c':Addr) (h0_:H P=some (.tbl ps)) (h1_:TriplesOk ps.toList) (h2_:codeAmong pos ps.toList=some (.ref c')) (h3_:H c'=some (.ext (CodeIs c' q))) (h4_:te (exWord word Q) (blkStart 0 js σ) H (fun _ H2=>Q (.str "") H2))
theorem pe_triedHit {st:Stmt} {ft W fw c P:Addr} {fdt fdw:FuncData} {word:Addr→Option Str} {params:Arguments} {body:Expr} {scope:Scope} {lpos p pos:Pos} {NL:List Str} {js:List Nat} {te:XK→TE} {k:Nat}
  (T:Tried X st ft fdt W fw fdw word) (hfn:∀ x,X.fn x=true) (hc:X.calm=true) (hr:Room (k+3) X.A) (hg:Gl X "_law_tried") (hcode:X.env.code=.ref c) (hcd:codeHdIn X.K c P=true) (bm:BMain X.mg X.base)
  (S:LamSc scope NL) (B:BlkNames X scope NL 0 js) (hdef:defaultsOf params X.env=([],[])) (hba:∀ cl pm c' ctv,bindArgs (kla_fn "<lambda>" (X.env.qual++"<lambda>") params body scope cl pm (.ref c') ctv) ⟨[],[]⟩=pure [])
  (hb:∀ (Ew:XK) cdv A outer s H pn E f c' s' H',Room k (cxLam (cxT X (defScope st) ft cdv A outer s H pn E) (X.env.qual++"<lambda>") scope f c' (closOf scope X.env) s' H' NL Ew).A →
   PE (cxLam (cxT X (defScope st) ft cdv A outer s H pn E) (X.env.qual++"<lambda>") scope f c' (closOf scope X.env) s' H' NL Ew) body (te Ew)) :
  PE X (.Call (.Name "_law_tried" p) [.Lambda params body scope lpos] [] pos) (tTriedHit P lpos (X.env.qual++"<lambda>") word js te):=by
 intro pins s σ H Q I h
 obtain ⟨ps,c',hP,ht,hnf,hcx,hq⟩:=h
 refine wpAny_Call_Name_kw (ld_glob I hg T.m ?_)
 refine callWith_K (h₀:=X.base) I.ok.mod.kin T.fn.kp ?_ (starEach_plain rfl) rfl
 rw [starEach_plain rfl]
 show wpAny _ _ (spliced ((false,eval (.Lambda params body scope lpos) X.env)::backTo pos (starEach [] X.env))) _ _ s
 refine Calls.spliced_cons (lam_hit I hcode hcd bm hP ht hnf hdef B.cel fun f pm ctv s1 I1 hsf hold hfo=>?_)
 refine Calls.spliced_nil ⟨I1.kIn,?_⟩
 obtain ⟨H1,hH1⟩:∃ H1,H1=H:=⟨H,rfl⟩
 rw [← hH1] at I1 hq
 have hcl:∀ n∈freeOf scope,∃ a,X.env.cells.lookup n=some a:=fun n hn=>I.ok.has n (B.cel n hn)
 have cl1:∀ x a,(closOf scope X.env).lookup x=some a→X.env.cells.lookup x=some a:=clos_lookup (freeOf scope) [] hcl fun x a e=>by simp at e
 have hfree:∀ x,scope.names.lookup x=some .free→x∈freeOf scope:=fun x e=>List.mem_map.mpr ⟨(x,.free),List.mem_filter.mpr ⟨PySem.mem_of_lookup e,by simp⟩,rfl⟩
 have h1none:∀ b,H b=none→b≠P→b≠c'→H1 b=none:=fun b n _ _=>by rw [hH1]; exact n
 have hPs:P<s.heap.objs.size:=I.hok.lt hP
 have stkLt:∀ b∈frs X.stack,b<s.heap.objs.size:=fun b hb=>by
  obtain ⟨_,o,ho,_⟩:=I.stack.mem hb
  exact Heap.lt_size ho
 have hcell:∀ x a,X.env.cells.lookup x=some a→a<s.heap.objs.size∧a≠P∧a≠c'∧a∉frs X.stack:=fun x a e=>by
  obtain ⟨v,hv⟩:=I.cell x a e
  have la:=hv.lt
  refine ⟨la,fun z=>?_,fun z=>(by have:=I.freeC x a e; rw [z,hcx] at this; cases this),fun z=>?_⟩
  ·have:=I.freeC x a e
   rw [z,hP] at this
   cases this
  ·rcases List.mem_cons.mp (I.stkSub a z) with z | z
   ·exact I.cne x a e z
   ·obtain ⟨_,o,ho,_⟩:=I.ok.funs.mem z
    exact absurd (Nat.lt_of_lt_of_le (Heap.lt_size ho) (I.ok.cab x a (hfn x) e)) (Nat.lt_irrefl _)
 have L1:LamAt s1.heap H1 (frs X.stack) f c' (X.env.qual++"<lambda>") params body scope (closOf scope X.env) NL (blkStart 0 js σ):=by
  refine ⟨⟨pm,ctv,hfo⟩,h1none f (I.hok.fresh hsf) (Nat.ne_of_gt (Nat.lt_of_lt_of_le hPs hsf)) (fun z=>by have:=I.hok.fresh hsf; rw [z,hcx] at this; cases this),fun z=>?_,by rw [hH1]; exact hcx,fun x y a e1 e2=>I.ok.inj x y a (cl1 x a e1) (cl1 y a e2),fun x a e=>?_,fun i x v e1 e2=>?_,?_⟩
  ·exact absurd (Nat.lt_of_lt_of_le (stkLt f z) hsf) (Nat.lt_irrefl _)
  ·have e':=cl1 x a e
   obtain ⟨la,n1,n2,n3⟩:=hcell x a e'
   obtain ⟨v,o,ho,hd⟩:=I.cell x a e'
   exact ⟨⟨v,o,hold a o ho,hd⟩,h1none a (I.freeC x a e') n1 n2,n3⟩
  ·unfold blkStart at e2
   rw [List.replicate_zero,List.nil_append,List.getElem?_map] at e2
   cases hj:js[i]? with
   | none=>rw [hj] at e2; cases e2
   | some j=>
    rw [hj] at e2
    have e2:some ((σ[j]?).join)=some (some v):=e2
    have e3:σ[j]?=some (some v):=by
     cases z:σ[j]? with
     | none=>rw [z] at e2; cases e2
     | some y=>rw [z] at e2; cases y with
      | none=>cases e2
      | some y=>cases e2; rfl
    have e4:X.N[j]?=some x:=by rw [B.at' i j hj,Nat.zero_add]; exact e1
    obtain ⟨hfr,_⟩:=B.fre i x (Nat.zero_le _) e1
    have kx:=B.cel x hfr
    obtain ⟨m,hm,hl⟩:=I.loc
    obtain ⟨u,r,l⟩:=hl j x v e4 e3 (by rcases kx with z | z; exact .inr (.inl z); exact .inr (.inr z))
    rcases l with ⟨kk,_⟩ | ⟨kk,a,ea,o,ho,hd⟩
    ·rcases kx with k' | k' <;> rw [kk] at k' <;> cases k'
    ·obtain ⟨a',ha'⟩:=clos_has (env:=X.env) (freeOf scope) [] x (.inl hfr)
     have:=cl1 x a' ha'
     rw [ea] at this
     cases this
     exact ⟨a,u,ha',r,o,hold a o ho,hd⟩
  ·unfold blkStart
   rw [List.replicate_zero,List.nil_append,List.length_map,B.len,Nat.zero_add]
 have SL:LamScope scope (closOf scope X.env) NL:=⟨S.kind,S.co,S.gen,S.cell,fun x e=>clos_has (env:=X.env) (freeOf scope) [] x (.inl (hfree x e)),S.nl⟩
 have hr1:Room (k+2+1) X.A:=hr
 have bt:BindsTo s1 fdt ⟨[.ref f],[]⟩ ((["_law_deed"]:List Str).zip [.ref f]):=by
  have:=T.b s1 [.ref f] I1.kIn rfl
  exact this
 refine wpAny_call (codeAny_mono (fn_run (CX:=CX0) (E:=E0) (Q:=Q) (vs:=[.ref f]) T.fn T.sc hr1 I1.env0 bt rfl (.cons rfl .nil) fun cdv hr2=>?_) fun r s' hq'=>?_)
 ·obtain ⟨p1,p2,p3,p4,p5,p6,p7,p8,p9,p10,p11,p12,j,hbod⟩:=T.is
  rw [hbod]
  have rw1:RoomU 1 (X.A.deeper (envOfC "_law_tried" (defScope st) s1.heap.objs.size ft cdv)):=⟨by have:=hr2.dp; omega,by have:=hr2.un; omega⟩
  let Y:Cx:=(cxOf CX0 X.prog X.w X.K X.mg X.base NT "_law_tried" (defScope st) ft cdv X.A X.stack s1 H1 E0).nox
  have run:∀ pn E,∀ (pl:List (Addr×Obj)) (s2:Shared) (σ2:St) (Q':VK),Inv (Y.pinned pn E) pl σ2 H1 s2→te (exWord word Q) (blkStart 0 js σ) H1 Q' →
    FnAt f s2.heap∧codeAny (model X.prog X.w) Y.A (.call (.ref f) ⟨[],[]⟩) (CR (CXE X.prog X.w) Y.stack X.prog X.w H1 s2 Q' (exWord word Q)) s2:=by
   intro pn E pl s2 σ2 Q' J hR
   have L2':=L1.stay (h':=s2.heap) (fr':=frs Y.stack) (fun b o e n hb=>J.base.keep b o e n hb (by show b∉([]:List Addr); simp)) (fun b o e hb z=>by
    rcases List.mem_cons.mp (show b∈s1.heap.objs.size::frs X.stack from z) with z | z
    ·exact absurd (Heap.lt_size e) (by rw [z]; exact Nat.lt_irrefl _)
    ·exact hb z)
   obtain ⟨pm',ctv',ho'⟩:=L2'.fn
   exact ⟨⟨_,_,_,_,ho'⟩,lam_run (X:=Y.pinned pn E) (k:=k) J L2' SL (hr2.mono (by omega)) (fun pm ctv=>hba _ pm c' ctv) (hb _ _ _ _ _ _ _ _ _ _ _ _ (Room.deeper (hr2.mono (by omega)) _)) hR⟩
  have try1:=ps_try (X:=Y) (x:="WardError") (n:="_law_e") (W:=W) (np:=p4) (hpos:=p9) (pos:=p10) (i:=1) (exWord word Q) ⟨rfl,rfl⟩ rfl T.sc.nd rfl T.k1 T.k2 T.mW
   (fun pn E hp=>pss_one (ps_expr (pos:=p3) (pe_lamcall (Y:=Y.pinned pn E) (x:="_law_deed") (p:=p1) (pos:=p2) (i:=0) (f:=f) (H₁:=H1) (R:=fun Q'=>te (exWord word Q) (blkStart 0 js σ) H1 Q') rfl T.k0 hp (run pn E)) rfl))
   (fun e pn=>pss_one (ps_ret (pos:=p8) (pe_callU (X:=Y.caught e pn) (x:="_law_word") (p:=p5) (pos:=p7) T.ok ⟨rw1.dp,rw1.un⟩ T.k3 T.mw T.kw T.bw (pac (pe_var (X:=Y.caught e pn) (x:="_law_e") (pos:=p6) (i:=1) rfl (.inl T.k1)) pa_nil))))
  refine ⟨_,PSs.nox (X:=cxOf CX0 X.prog X.w X.K X.mg X.base NT "_law_tried" (defScope st) ft cdv X.A X.stack s1 H1 E0) (pss_cons try1 (pss_one (ps_ret pe_str))),⟨rfl,rfl,hq⟩,?_⟩
  ·intro cls H2 ⟨C,x,e1,e2,e3⟩
   refine ⟨C,e1,T.wk C x e2,fun e σ1 hl he=>⟨_,?_,e,C,x,rfl,upd_same,e2,fun H3 sm=>e3 H3 fun b o z=>sm b o (by rw [upd_ne (ne_of_none z he)]; exact z)⟩⟩
   have hl2:σ1.length=2:=hl
   exact List.getElem?_set_self (by omega)
 ·cases r with
  | error e=>exact False.elim hq'
  | ok fl=>
   cases fl with
   | ret u=>exact I1.after hq'
   | next=>exact False.elim hq'
   | brk=>exact False.elim hq'
   | cont=>exact False.elim hq'
inductive tTriedL (P:Addr) (pos:Pos) (q:Str) (word:Addr→Option Str) (js:List Nat) (te:XK→TE) (σ:St) (H:Hp) (Q:VK):Prop
 | made (h:tTried P pos q word js te σ H Q)
 | hit (h:tTriedHit P pos q word js te σ H Q)
theorem pe_triedL {st:Stmt} {ft W fw c P:Addr} {fdt fdw:FuncData} {word:Addr→Option Str} {params:Arguments} {body:Expr} {scope:Scope} {lpos p pos:Pos} {NL:List Str} {js:List Nat} {te:XK→TE} {k:Nat}
  (T:Tried X st ft fdt W fw fdw word) (hfn:∀ x,X.fn x=true) (hc:X.calm=true) (hr:Room (k+3) X.A) (hg:Gl X "_law_tried") (hcode:X.env.code=.ref c) (hcd:codeHdIn X.K c P=true) (bm:BMain X.mg X.base)
  (S:LamSc scope NL) (B:BlkNames X scope NL 0 js) (hdef:defaultsOf params X.env=([],[])) (hba:∀ cl pm c' ctv,bindArgs (kla_fn "<lambda>" (X.env.qual++"<lambda>") params body scope cl pm (.ref c') ctv) ⟨[],[]⟩=pure [])
  (hb:∀ (Ew:XK) cdv A outer s H pn E f c' s' H',Room k (cxLam (cxT X (defScope st) ft cdv A outer s H pn E) (X.env.qual++"<lambda>") scope f c' (closOf scope X.env) s' H' NL Ew).A →
   PE (cxLam (cxT X (defScope st) ft cdv A outer s H pn E) (X.env.qual++"<lambda>") scope f c' (closOf scope X.env) s' H' NL Ew) body (te Ew)) :
  PE X (.Call (.Name "_law_tried" p) [.Lambda params body scope lpos] [] pos) (tTriedL P lpos (X.env.qual++"<lambda>") word js te):=by
 intro pins s σ H Q I h
 cases h with
 | made h=>exact pe_tried T hfn hc hr hg hcode hcd bm S B hdef hba hb pins s σ H Q I h
 | hit h=>exact pe_triedHit T hfn hc hr hg hcode hcd bm S B hdef hba hb pins s σ H Q I h

end
end L2
namespace L2
open PySem PySem.Spec PySem.Calls PyProof.Rows
noncomputable def unl:List Str→List Str→List Str
 | [],k=>k
 | z::r,k=>unl r (if z∈k then k else k++[z])
theorem unl_snoc:∀ (r:List Str) (z:Str) (k:List Str),unl (r++[z]) k=if z∈unl r k then unl r k else unl r k++[z]
 | [],z,k=>rfl
 | y::r,z,k=>unl_snoc r z _
theorem unl_len:∀ (r k:List Str),(unl r k).length≤k.length+r.length
 | [],k=>Nat.le_refl _
 | y::r,k=>by
  have h:=unl_len r (if y∈k then k else k++[y])
  have h2:(if y∈k then k else k++[y]).length≤k.length+1:=by
   split
   ·exact Nat.le_succ _
   ·rw [List.length_append]; exact Nat.le_refl _
  show (unl r (if y∈k then k else k++[y])).length≤k.length+(r.length+1)
  omega
theorem nd1 (y:Str):[y].Nodup:=List.nodup_cons.mpr ⟨fun h=>(nomatch h),.nil⟩
theorem unl_mem:∀ (r k:List Str) (z:Str),z∈unl r k↔z∈k∨z∈r
 | [],k,z=>by simp [unl]
 | y::r,k,z=>by
  show z∈unl r _↔_
  rw [unl_mem r]
  by_cases h:y∈k
  ·rw [if_pos h,List.mem_cons]
   exact ⟨fun q=>q.imp id .inr,fun q=>q.elim .inl fun q=>q.elim (fun e=>.inl (e▸h)) .inr⟩
  ·rw [if_neg h,List.mem_cons,List.mem_append,List.mem_singleton,or_assoc]
theorem unl_nodup:∀ (r k:List Str),k.Nodup→(unl r k).Nodup
 | [],k,h=>h
 | y::r,k,h=>by
  refine unl_nodup r _ ?_
  by_cases q:y∈k
  ·rw [if_pos q]; exact h
  ·rw [if_neg q]
   exact List.nodup_append.mpr ⟨h,nd1 _,fun a ha b hb e=>q (by rw [← List.mem_singleton.mp hb,← e]; exact ha)⟩
noncomputable abbrev newSetO (led:Bool):Obj:={ cls:=.type "set",dict:=none,data:=.set #[] 0 (.fresh 0 0 led) }
end L2
namespace L2
open PySem PySem.Spec PySem.Calls PyProof.Rows
theorem layNew_led (t:SetTable) (es:Array (Int×Value)) (h:Int) (x:Value):(layNew t es h x).2.1.led=t.led:=by
 unfold layNew
 split
 ·dsimp only
  unfold SetTable.orStandIn SetTable.put
  dsimp only
  split <;> (split <;> rfl)
 ·rfl
theorem laid_led {mask finger moves:Nat} {led plain:Bool} {hs:Array Int} {r:SetTable×Array Nat} (e:SetTable.laid mask finger moves led plain hs=some r):r.1.led=led∧r.1.plain=plain:=by
 unfold SetTable.laid at e
 cases q:SetTable.layClean mask hs with
 | none=>rw [q] at e; cases e
 | some o=>
  rw [q] at e
  cases e
  exact ⟨rfl,rfl⟩
theorem relayAll_led {t:SetTable} (es:Array (Int×Value)) (n:Nat) (h:t.plain=false):(relayAll t es n).2.1.led=t.led∧(relayAll t es n).2.1.plain=false:=by
 unfold relayAll
 cases q:t.relaid (es.map (·.1)) n with
 | none=>exact ⟨rfl,rfl⟩
 | some r=>
  have hq:=laid_led q
  obtain ⟨t',order⟩:=r
  dsimp only at hq ⊢
  split
  ·exact ⟨hq.1,hq.2.trans h⟩
  ·exact ⟨rfl,rfl⟩
section
variable {prog:Program} {w:World} {A:Around} {E:Value→Shared→Prop} {s:Shared}
structure SetO (prog:Program) (w:World) (ss:List Str) (L:Bool) (o:Obj) (es:Array (Int×Value)) (ep:Nat) (t:SetTable):Prop where
 ex:o.ExactSet
 da:o.data=.set es ep t
 el:ElemsOf (PySem.strKind prog w) es.toList
 me:∀ z,z∈unl ss []↔∃ e∈es.toList,(PySem.strKind prog w).is z e.2=true
 sz:es.size=(unl ss []).length
 sb:es.size<scanBound
 fi:t.fits es.size=true
 le:t.led=L
 pl:es.size=0∨t.plain=false
noncomputable def SSet (h:Heap) (a:Addr) (prog:Program) (w:World) (ss:List Str) (L:Bool):Prop:=∃ o es ep t,h.get? a=some o∧SetO prog w ss L o es ep t
theorem put_get {h:Heap} {a:Addr} {o:Obj} {es:Array (Int×Value)} {ep:Nat} {t:SetTable} (ho:h.get? a=some o) (hd:o.data=.set es ep t) (es':Array (Int×Value)) (t':SetTable) :
  (h.update a (Obj.putSet es' t')).get? a=some { o with data:=.set es' (ep+1) t' }:=by
 have q:=Heap.get?_update_self (Obj.putSet es' t') ho (by rw [putSet_of es' t' hd]; rfl)
 rw [putSet_of es' t' hd] at q
 exact q
theorem add_str {a:Addr} {ss:List Str} {L:Bool} {z:Str} {tz:Tok} {Q:Bool→Shared→Prop} (hS:SSet s.heap a prog w ss L) (hr:(unl ss []).length+1<scanBound)
  (q:∀ b h',Heap.SameBut a s.heap h'→SSet h' a prog w (ss++[z]) L→Q b { s with heap:=h' }):wpAny (model prog w) A (setAddHashed a (.str z tz) ((PySem.strKind prog w).hash z)) Q E s:=by
 obtain ⟨o,es,ep,t,ho,S⟩:=hS
 have hkey:(PySem.strKind prog w).is z (.str z tz)=true:=beq_self_eq_true z
 unfold setAddHashed setAddHashedIn
 refine wpAny_holding (wpAny_bind (wpAny_setState_of ho S.da S.fi ?_))
 dsimp only
 rw [byScan_of rfl S.sb S.el]
 simp only [↓reduceIte]
 unfold setAddByScan
 refine wpAny_bind (wpAny_bind (wpAny_rule (wpAny_bind (wpAny_setScan_of hkey ho S.da S.fi S.el ?_))))
 cases hf:List.findIdx? (fun e=>(PySem.strKind prog w).is z e.2) es.toList with
 | some j=>
  dsimp only
  obtain ⟨hj,hp,_⟩:=List.findIdx?_eq_some_iff_getElem.mp hf
  have hz:z∈unl ss []:=(S.me z).mpr ⟨es.toList[j],List.getElem_mem hj,hp⟩
  have e:unl (ss++[z]) []=unl ss []:=by rw [unl_snoc,if_pos hz]
  have e2:s={ s with heap:=s.heap }:=by cases s; rfl
  refine wpAny_pure (wpAny_pure ?_)
  rw [e2]
  exact q _ _ (Heap.SameBut.refl a s.heap) ⟨o,es,ep,t,ho,S.ex,S.da,S.el,fun y=>by rw [e]; exact S.me y,by rw [e]; exact S.sz,S.sb,S.fi,S.le,S.pl⟩
 | none=>
  dsimp only
  have hz:¬ z∈unl ss []:=fun h=>by
   obtain ⟨e,he,hp⟩:=(S.me z).mp h
   rw [List.findIdx?_eq_none_iff.mp hf e he] at hp
   cases hp
  have e:unl (ss++[z]) []=unl ss []++[z]:=by rw [unl_snoc,if_neg hz]
  have gw:∀ (b:Bool) {s₁:Shared} {Q':Unit→Shared→Prop},Q' () s₁→wpAny (model prog w) A (match b with | true=>rule "set.scan.the-table-gave-way" | false=>pure ()) Q' E s₁:=fun b s₁ Q' h=>by
   cases b
   ·exact wpAny_pure h
   ·exact wpAny_rule h
  have lp:=layNew_perm t es ((PySem.strKind prog w).hash z) (.str z tz)
  have lf:=layNew_fits t es ((PySem.strKind prog w).hash z) (.str z tz)
  have ll:=layNew_led t es ((PySem.strKind prog w).hash z) (.str z tz)
  generalize layNew t es ((PySem.strKind prog w).hash z) (.str z tz)=lay at lp lf ll ⊢
  obtain ⟨e1,t1,wd,gv⟩:=lay
  dsimp only at lp lf ll ⊢
  rw [Array.toList_push] at lp
  have el1:ElemsOf (PySem.strKind prog w) e1.toList:=(S.el.push hkey rfl).perm lp
  have me1:∀ y,y∈unl (ss++[z]) []↔∃ e∈e1.toList,(PySem.strKind prog w).is y e.2=true:=fun y=>by
   have:=mem_push_iff (knd:=PySem.strKind prog w) (S:=fun y=>decide (y∈unl ss [])) hkey (fun y=>by rw [decide_eq_true_iff]; exact S.me y) lp y
   rw [← this,e,Bool.or_eq_true,decide_eq_true_iff,decide_eq_true_iff,List.mem_append,List.mem_singleton]
  have sz1:e1.size=(unl (ss++[z]) []).length:=by
   rw [← Array.length_toList,lp.length_eq,List.length_append,Array.length_toList,S.sz,e,List.length_append]
   rfl
  have sb1:e1.size<scanBound:=by rw [sz1,e,List.length_append]; exact hr
  refine wpAny_bind (gw _ ?_)
  -- behind the look at the value's hash the table is plain no more
  suffices main:∀ (t2:SetTable) (R:Option Bool→Shared→Prop),t2.led=L→t2.plain=false→t2.fits e1.size=true→(∀ h',Heap.SameBut a s.heap h'→SSet h' a prog w (ss++[z]) L→R (some true) { s with heap:=h' })→wpAny (model prog w) A (do
    storeSet a e1 t2
    if (!wd&&t2.tooFull)=true then do
      (match (relayAll t2 e1 (SetTable.grown e1.size)).2.2 with | true=>rule "set.scan.the-table-gave-way" | false=>pure ())
      storeSet a (relayAll t2 e1 (SetTable.grown e1.size)).1 (relayAll t2 e1 (SetTable.grown e1.size)).2.1
      pure (some true)
     else pure (some true)) R E s by
   split
   ·refine wpAny_bind ?_
    rw [hashByValue_scannable 8 (x:=.str z tz) rfl]
    refine wpAny_pure ?_
    exact main _ _ (ll.trans S.le) rfl (SetTable.fits_plain_off lf) fun h' sm T=>wpAny_pure (q true h' sm T)
   ·rename_i np
    refine wpAny_bind (wpAny_pure ?_)
    simp only [↓reduceIte]
    exact main t1 _ (ll.trans S.le) (by simpa using np) lf fun h' sm T=>wpAny_pure (q true h' sm T)
  intro t2 R h1 h2 h3 hR
  refine wpAny_bind (wpAny_storeSet_of ho S.da ?_ (fits_of_scanBound sb1))
  have g1:=put_get ho S.da e1 t2
  have sm1:=Heap.SameBut.update s.heap a (Obj.putSet e1 t2)
  split
  ·have rp:=relayAll_perm t2 e1 (SetTable.grown e1.size)
   have rf':=relayAll_fits t2 e1 (SetTable.grown e1.size)
   have rl:=relayAll_led e1 (SetTable.grown e1.size) h2
   generalize relayAll t2 e1 (SetTable.grown e1.size)=rel at rp rf' rl ⊢
   obtain ⟨e3,t3,g3⟩:=rel
   dsimp only at rp rf' rl ⊢
   have sz3:e3.size=e1.size:=by rw [← Array.length_toList,rp.length_eq,Array.length_toList]
   refine wpAny_bind (gw _ (wpAny_bind (wpAny_storeSet_of g1 rfl ?_ (fits_of_scanBound (by rw [sz3]; exact sb1)))))
   refine wpAny_pure (hR _ (sm1.trans (Heap.SameBut.update _ a _)) ⟨_,e3,ep+1+1,t3,put_get g1 rfl e3 t3,S.ex,rfl,el1.perm rp,fun y=>(me1 y).trans ⟨fun ⟨e,he,p⟩=>⟨e,rp.mem_iff.mpr he,p⟩,fun ⟨e,he,p⟩=>⟨e,rp.mem_iff.mp he,p⟩⟩,sz3.trans sz1,by rw [sz3]; exact sb1,rf',rl.1.trans h1,.inr rl.2⟩)
  ·exact wpAny_pure (hR _ sm1 ⟨_,e1,ep+1,t2,g1,S.ex,rfl,el1,me1,sz1,sb1,h3,h1,.inr h2⟩)
end
end L2
namespace L2
open PySem PySem.Spec PySem.Calls PyProof.Rows
theorem erase_perm {α:Type}:∀ (l:List α) (i:Nat) (h:i<l.length),(l[i]::l.eraseIdx i).Perm l
 | a::t,0,_=>.refl _
 | a::t,i+1,h=>by
  have hi:i<t.length:=by simpa using h
  exact (List.Perm.swap _ _ _).trans (List.Perm.cons a (erase_perm t i hi))
section
variable {M:Model} {A:Around} {E:Value→Shared→Prop} {s:Shared} {α:Type}
theorem wp_draw {src:Source} {n:Nat} {Q:Nat→Shared→Prop} (hn:n≠0) (h:∀ i d,i<n→Q i { s with drawn:=d }):wpAny M A (choose src n) Q E s:=
 fun _ _ _=>⟨hn,h _ _ (Nat.mod_lt _ (Nat.pos_of_ne_zero hn))⟩
theorem draw_perm:∀ (n:Nat) (xs:List α) (s:Shared) {Q:List α→Shared→Prop},xs.length=n→(∀ ys d,ys.Perm xs→Q ys { s with drawn:=d })→wpAny M A (drawOrder n xs) Q E s
 | 0,[],s,Q,_,h=>wpAny_pure (h [] s.drawn (.refl _))
 | n+1,x::xs,s,Q,hl,h=>by
  unfold drawOrder
  refine wpAny_bind (wp_draw (by simp) fun i d hi=>?_)
  have e:(x::xs)[i]?=some (x::xs)[i]:=List.getElem?_eq_getElem hi
  rw [e]
  dsimp only
  refine wpAny_bind (draw_perm n ((x::xs).eraseIdx i) { s with drawn:=d } (by rw [List.length_eraseIdx_of_lt hi]; simp at hl ⊢; omega) fun ys d' hp=>wpAny_pure (h _ d' ?_))
  refine List.Perm.trans (List.Perm.cons _ hp) ?_
  exact erase_perm _ i hi
theorem pick_go (next:Nat→Nat):∀ (n k:Nat) (left:List α) (out:Array α),left.length=n→(pickOrder.go next n k left out).toList.Perm (out.toList++left)
 | 0,k,left,out,h=>by
  have:left=[]:=List.length_eq_zero_iff.mp h
  subst this
  unfold pickOrder.go
  rw [List.append_nil]
 | n+1,k,left,out,h=>by
  unfold pickOrder.go
  have hi:next k%left.length<left.length:=Nat.mod_lt _ (by omega)
  rw [List.getElem?_eq_getElem hi]
  dsimp only
  refine (pick_go next n (k+1) _ _ (by rw [List.length_eraseIdx_of_lt hi]; omega)).trans ?_
  rw [Array.toList_push,List.append_assoc]
  exact List.Perm.append_left _ (erase_perm _ _ hi)
theorem pick_perm (next:Nat→Nat) (xs:Array α):(pickOrder next xs).toList.Perm xs.toList:=by
 have:=pick_go next xs.size 0 xs.toList #[] (by simp)
 simpa [pickOrder] using this
end
end L2
namespace L2
open PySem PySem.Spec PySem.Calls PyProof.Rows
section
variable {prog:Program} {w:World}
theorem sset_at {h h':Heap} {S:Addr} {ss:List Str} {L:Bool} (T:SSet h S prog w ss L) (k:∀ o,h.get? S=some o→h'.get? S=some o):SSet h' S prog w ss L:=by
 obtain ⟨o,es,ep,t,ho,rest⟩:=T
 exact ⟨o,es,ep,t,k o ho,rest⟩
variable {A:Around} {R:Result→Shared→Prop} {It:Addr} {fp wr:List Addr} {G:Array GenState→Array GenState→Prop} {n:Nat} {Pv:Nat→Value→Prop} {St':Nat→Shared→Prop}
theorem sset_fill (W:WalksS prog w A.in1 It fp wr G n Pv St') {S:Addr} {L:Bool} (hS:S∉fp) {ss:List Str} (hn:ss.length=n) (hb:n+1<scanBound)
  (hv:∀ (i:Nat) v,Pv i v→∃ z t,ss[i]?=some z∧v=.str z t) (k:Nat):∀ (i:Nat) (s:Shared),i+k=n→St' i s→SSet s.heap S prog w (ss.take i) L →
   (∀ s',Moved (S::wr) G s s'→SSet s'.heap S prog w ss L→R (.ok (.ret .none)) s')→codeAny (model prog w) A (.builtin "set.update.loop" ⟨[.ref S,.ref It],[]⟩) R s:=by
 have hw:S∉wr:=fun q=>hS (W.sub _ q)
 induction k with
 | zero=>
  intro i s hi st T q
  refine codeAny_builtin F.entry_set_update_loop (by
   rw [Around.under_plainId F.plain_set_update_loop _]
   refine wpAny_bind (W.done s _ _ (by rw [← hi]; exact st) fun s' m=>wpAny_pure (q s' (m.mono fun b u=>.tail _ u) (sset_at ?_ fun o e=>m.heap S o hw e)))
   rw [List.take_of_length_le (by omega)] at T
   exact T)
 | succ k ih=>
  intro i s hi st T q
  refine codeAny_builtin F.entry_set_update_loop (by
   rw [Around.under_plainId F.plain_set_update_loop _]
   refine wpAny_bind (W.item i s _ _ (by omega) st fun v s1 pv st1 m=>?_)
   obtain ⟨z,t,hz,rfl⟩:=hv i v pv
   have T1:=sset_at T fun o e=>m.heap S o hw e
   have hi':i<ss.length:=(List.getElem?_eq_some_iff.mp hz).1
   have hl:=unl_len (ss.take i) []
   rw [List.length_take,List.length_nil] at hl
   show wpAny _ A.in1 (holding [Value.str z t] (setAdd S (.str z t))>>=_) _ _ s1
   refine wpAny_bind (wpAny_holding ?_)
   unfold setAdd
   refine wpAny_holding (wpAny_bind ((PySem.strKind prog w).pyHash (k:=z) (by exact beq_self_eq_true z) ?_))
   refine add_str (s:={ s1 with toks:=s1.toks+1 }) T1 (by omega) fun b h2 sb T3=>?_
   rw [show ss.take i++[z]=ss.take (i+1) by rw [List.take_succ,hz]; rfl] at T3
   refine wpAny_pure ⟨plainId_quiet F.plain_set_update_loop _,ih (i+1) { s1 with heap:=h2,toks:=s1.toks+1 } (by omega) (W.frame _ s1 _ _ st1 (Nat.le_succ _) fun b u o e=>?_) T3 fun s3 m3 T4=>q s3 ?_ T4⟩
   ·rw [sb.2 b fun u':b=S=>hS (u'▸u)]; exact e
   ·refine Moved.trans W.gtrans ((m.mono fun b u=>.tail _ u).then_heap (Nat.le_succ _) fun b o u e=>?_) m3
    rw [sb.2 b fun u':b=S=>u (u'▸.head _)]; exact e)
end
section
variable {prog:Program} {w:World} {A:Around} {E:Value→Shared→Prop} {s:Shared}
theorem sset_new {h:Heap} {a:Addr} {led:Bool} (hS:h.get? a=some (newSetO led)):SSet h a prog w [] led:=
 ⟨_,#[],0,.fresh 0 0 led,hS,⟨rfl,rfl,rfl⟩,rfl,fun e he=>(by simp at he),fun z=>(by simp [unl]),rfl,by decide,rfl,rfl,.inl rfl⟩
set_option maxHeartbeats 6000000 in
theorem sset_init {l S:Addr} {led:Bool} {items:Array Value} {ss:List Str} (hh:A.handled=none) (hl:s.heap.IsList l items) (hS:s.heap.get? S=some (newSetO led)) (hne:S≠l) (hn:ss.length=items.size) (hb:items.size+1<scanBound)
  (hi:∀ (i:Nat) v,items[i]?=some v→∃ z t,ss[i]?=some z∧v=.str z t) {Qr:Fin→Shared→Prop}
  (q:∀ h' tk,SSet h' S prog w ss led→(∀ b o,b≠S→s.heap.get? b=some o→h'.get? b=some o)→Qr (.done (.ret .none)) { s with heap:=h',toks:=tk }) :
  wpAny (model prog w) A (Builtin.«set.__init__» ⟨[.ref S,.ref l],[]⟩) Qr E s:=by
 have hl1:=hl
 obtain ⟨⟨lc,ld,la,lo⟩,hol,hcl,nl,hdl⟩:=hl
 simp only at hcl hdl
 subst hcl hdl
 have f1:=F.sub_list_set
 have f2:=F.sub_list_frozenset
 have f3:(Value.type "list" == Value.type "dict")=false:=by decide
 unfold Builtin.«set.__init__» noKeywords Builtin.Frozenset.updateFrom
 generalize hPI:pyIter=PI
 wp_walk
 subst hPI
 refine wpAny_pyIter_list hl1 (wpAny_bind (wpAny_runValue ?_))
 have lS:l<s.heap.objs.size:=Heap.lt_size hol
 have SS:S<s.heap.objs.size:=Heap.lt_size hS
 have T0:SSet s.heap S prog w [] led:=sset_new hS
 refine sset_fill ((Walks.list (by simp [hh]) s.heap.objs.size l (Nat.ne_of_lt lS) items).toS) (S:=S) (by simp [hne,Nat.ne_of_lt SS]) hn hb hi items.size 0 _ (Nat.zero_add _) ⟨⟨_,Heap.get?_push_size _ rfl,rfl,rfl⟩,hl1.push _⟩ (sset_at T0 fun o e=>Heap.get?_push_of_some _ e) ?_
 rintro ⟨h',g',d',tk',os'⟩ m T
 obtain ⟨m1,m2,m3,m4,m5⟩:=m
 cases m2
 cases m3
 cases m4
 refine wpAny_pure (wpAny_pure (q h' tk' T fun b o hb e=>m1 b o ?_ (Heap.get?_push_of_some _ e)))
 simp [hb,Nat.ne_of_lt (Heap.lt_size e)]
noncomputable abbrev ledW (w:World):Bool:=!w.params.followText "set-order"
theorem set_newL (a:Value) {Q₁:Value→Shared→Prop} (h:Q₁ (.ref s.heap.objs.size) { s with heap:=s.heap.push (newSetO (ledW w)) }) :
  codeAny (model prog w) A (.call (.builtin "set.__new__") ⟨[.type "set",a],[]⟩) (wants Q₁ E) s:=by
 refine codeAny_of_tree ?_
 show wpAny _ A.in1 (do checkBuiltinCall "set.__new__" ⟨[.type "set",a],[]⟩; again (.builtin "set.__new__" ⟨[.type "set",a],[]⟩)) _ _ s
 refine wpAny_bind (wpAny_of_eq (F.newCall_set_1 a) (wpAny_pure ⟨plainId_quiet F.plain_set_new _,codeAny_builtin F.entry_set_new ?_⟩))
 rw [Around.under_plainId F.plain_set_new _]
 unfold Builtin.«set.__new__» Builtin.Frozenset.newClass
 have hsub:=sub_set_self
 obtain ⟨hp,g,d,tk,os⟩:=s
 dsimp only
 wp_walk
 refine wpAny_askSetting (wpAny_pure ?_)
 dsimp only
 simp only [newObj]
 refine wpAny_bind (wpAny_alloc (wpAny_pure ?_))
 exact wpAny_pure h
set_option maxHeartbeats 6000000 in
theorem call_sset {l:Addr} {items:Array Value} {ss:List Str} {Q:Value→Shared→Prop} (hh:A.handled=none) (hl:s.heap.IsList l items) (hn:ss.length=items.size) (hb:items.size+1<scanBound)
  (hi:∀ (i:Nat) v,items[i]?=some v→∃ z t,ss[i]?=some z∧v=.str z t)
  (q:∀ h' tk,SSet h' s.heap.objs.size prog w ss (ledW w)→(∀ b o,s.heap.get? b=some o→h'.get? b=some o)→Q (.ref s.heap.objs.size) { s with heap:=h',toks:=tk }) :
  wpAny (model prog w) A (call (.type "set") [.ref l]) Q E s:=by
 obtain ⟨c,tl,hmro⟩:=F.called_set.mro
 have g1:=F.called_set.made
 have g2:=F.called_set.sub
 have g3:=F.called_set.notType
 have g4:=F.called_set.canCreate
 have g5:=F.typeCall_set_1 (.ref l)
 refine wpAny_call (codeAny_of_tree ?_)
 show wpAny _ _ (callAny (.type "set") _) _ _ _
 refine wpAny_pure ⟨Code.quiet_builtin _ (by decide +kernel),codeAny_builtin F.entry_type_call ?_⟩
 rw [Around.under_plain (weight_type_call_type "set" [.ref l] []) rfl]
 repeat any_goals first | assumption | wp_step
 refine codeAny_mono (set_newL (.ref l) (E:=E) (Q₁:=fun v s1=>v=.ref s.heap.objs.size∧s1={ s with heap:=s.heap.push (newSetO (ledW w)) }) ⟨rfl,rfl⟩) fun r s1 hr=>?_
 match r,hr with
 | .error _,hr=>exact hr
 | .ok (.ret v),⟨e1,e2⟩=>
  subst e1 e2
  have hS:(s.heap.push (newSetO (ledW w))).get? s.heap.objs.size=some (newSetO (ledW w)):=Heap.get?_push_size _ rfl
  have hT:Shared.TypeIs { s with heap:=s.heap.push (newSetO (ledW w)) } (.ref s.heap.objs.size) "set":=⟨_,hS,rfl⟩
  have g6:=F.called_set.init.lookup
  have g7:=F.called_set.init.bind (.ref s.heap.objs.size)
  repeat any_goals first | assumption | wp_step
  have lS:l<s.heap.objs.size:=let ⟨_,e,_⟩:=hl; Heap.lt_size e
  refine codeAny_mono (codeAny_call_builtin (R:=wants (fun v s2=>v=.none∧∃ h' tk,s2={ s with heap:=h',toks:=tk }∧SSet h' s.heap.objs.size prog w ss (ledW w)∧∀ b o,s.heap.get? b=some o→h'.get? b=some o) E) F.called_set.init.plain F.entry_set_init
   (check_set_init_1 hT (sset_init (by simp [hh]) (hl.push _) hS (Nat.ne_of_gt lS) hn hb hi fun h' tk T k=>⟨rfl,h',tk,rfl,T,fun b o e=>k b o (Nat.ne_of_lt (Heap.lt_size e)) (Heap.get?_push_of_some _ e)⟩))) fun r2 s2 hr2=>?_
  match r2,hr2 with
  | .error _,hr2=>exact hr2
  | .ok (.ret v),⟨e1,h',tk,e2,T,k⟩=>
   subst e1 e2
   repeat any_goals first | assumption | wp_step
   exact q h' tk T k
end
end L2
namespace L2
open PySem PySem.Spec PySem.Calls PyProof.Rows
theorem si_next:Slot "set_iterator" "__next__" "set_iterator.__next__" := Slot.of (n:="__next__") (owner:="set_iterator") (by rw [typeLookup_type,builtinLookup_eq_fast]; kernel_rfl) (by decide +kernel) (by decide +kernel) (by decide +kernel) (.inl (by decide +kernel)) (by rw [isSubtype_type]; kernel_rfl)
theorem si_iter:Slot "set_iterator" "__iter__" "set_iterator.__iter__" := Slot.of (n:="__iter__") (owner:="set_iterator") (by rw [typeLookup_type,builtinLookup_eq_fast]; kernel_rfl) (by decide +kernel) (by decide +kernel) (by decide +kernel) (.inl (by decide +kernel)) (by rw [isSubtype_type]; kernel_rfl)
theorem si_nextE:entryFor table "set_iterator.__next__"=some Builtin.«set_iterator.__next__»:=entryFor_of_tree (by kernel_rfl)
theorem si_iterE:entryFor table "set_iterator.__iter__" = some Builtin.«dict_keyiterator.__iter__»:=entryFor_alias (id':="dict_keyiterator.__iter__") (by kernel_rfl) rfl (by decide +kernel) (by kernel_rfl)
theorem set_iterE:entryFor table "set.__iter__" = some Builtin.«frozenset.__iter__»:=entryFor_alias (id':="frozenset.__iter__") (by kernel_rfl) rfl (by decide +kernel) (by kernel_rfl)
theorem si_owner:Manifest.owners.lookup (String.ofList ['r','o','t','a','r','e','t','i','_','t','e','s'].reverse)=some Manifest.sig_set_iterator:=by kernel_rfl
theorem si_nextA (a:Value):argsOk "set_iterator.__next__" ⟨[a],[]⟩:=by
 unfold argsOk
 rw [signature?_of (id:="set_iterator.__next__") (o:=['r','o','t','a','r','e','t','i','_','t','e','s']) (n:=['_','_','t','x','e','n','_','_']) (by kernel_rfl) si_owner]
 kernel_rfl
theorem si_iterA (a:Value):argsOk "set_iterator.__iter__" ⟨[a],[]⟩:=by
 unfold argsOk
 rw [signature?_of (id:="set_iterator.__iter__") (o:=['r','o','t','a','r','e','t','i','_','t','e','s']) (n:=['_','_','r','e','t','i','_','_']) (by kernel_rfl) si_owner]
 kernel_rfl
noncomputable def SI (h:Heap) (I:Addr) (f:Value) (i:Nat) (S:Addr) (n ep:Nat):Prop:=∃ o,h.get? I=some o∧o.cls=.type "set_iterator" ∧ o.data=.fields #[f,.int i 0,.ref S,.int n 0,.int ep 0]
theorem SI.typeIs {s:Shared} {I f i S n ep} (x:SI s.heap I f i S n ep):s.TypeIs (.ref I) "set_iterator":=let ⟨o,ho,hc,_⟩:=x; ⟨o,ho,hc⟩
theorem SI.at {h h':Heap} {I f i S n ep} (x:SI h I f i S n ep) (k:∀ o,h.get? I=some o→h'.get? I=some o):SI h' I f i S n ep:=let ⟨o,ho,r⟩:=x; ⟨o,k o ho,r⟩
section
variable {prog:Program} {w:World} {A:Around} {E:Value→Shared→Prop} {s:Shared}
theorem si_self {I:Addr} {f i S n ep} {Q:Value→Shared→Prop} (x:SI s.heap I f i S n ep) (h:Q (.ref I) s):wpAny (model prog w) A (pyIter (.ref I)) Q E s:=by
 refine wpAny_pyIter_slot x.typeIs si_iter (wpAny_call_entry si_iter x.typeIs si_iterE ?_ (si_iterA _))
 show wpAny _ _ (ret (.ref I)) _ _ s
 exact wpAny_pure ⟨_,rfl,"set_iterator",_,x.typeIs,si_next.lookup,h⟩
structure SetK (h:Heap) (S:Addr) (es:Array (Int×Value)) (ep:Nat) (t:SetTable):Prop where
 at':∃ o,h.get? S=some o∧o.data=.set es ep t
 fi:t.fits es.size=true
theorem SetK.keep {h h':Heap} {S es ep t} (x:SetK h S es ep t) (k:∀ o,h.get? S=some o→h'.get? S=some o):SetK h' S es ep t:=let ⟨o,ho,hd⟩:=x.at'; ⟨⟨o,k o ho,hd⟩,x.fi⟩
theorem si_fields {I S:Addr} {o:Obj} {f f':Value} {i n ep:Nat} (ho:s.heap.get? I=some o) (hc:o.cls=.type "set_iterator") (hd:o.data=.fields #[f,.int i 0,.ref S,.int n 0,.int ep 0]) :
  SI (s.heap.update I (Obj.mapFields (·.setIfInBounds 1 (rawInt ((i:Int)+1))))) I f (i+1) S n ep:=
 ⟨_,Heap.get?_update_self _ ho (Obj.isFreed_of_fields (Obj.data_mapFields hd _)),(Obj.cls_mapFields ..).trans hc,by rw [Obj.data_mapFields hd]; simp [rawInt]⟩
theorem si_raise {h:Heap} {I:Addr} {Q:Option Value→Shared→Prop} {R:Fin→Shared→Prop} (hh:A.handled=none) (hb:Heap.SameBut I s.heap h) (hQ:∀ h',Heap.ExtBut I s.heap h'→Q none { s with heap:=h' }) :
  wpAny (model prog w) A.in1 (newExc (.type "StopIteration") []>>=fun e=>raiseNew (α:=Fin) e) R (fun e s'=>wpAny (model prog w) A (isInstance e (.type "StopIteration")>>=fun b=>if b=true then pure none else throw e) Q E s') { s with heap:=h }:=by
 refine wpAny_bind ?_
 simp only [newExc,newTuple]
 refine wpAny_bind (wpAny_newObj_type ?_ (by size_fits))
 refine wpAny_bind (m:=firstArgMember _ _) (wpAny_of_eq (a:=Value.none) (by first | rfl | (simp only [firstArgMember]; rfl)) ?_)
 refine wpAny_newObj_type ?_ (by size_fits)
 simp only [raiseNew]
 refine wpAny_bind (wpAny_handled ?_)
 rw [show A.in1.handled=none from hh]
 refine wpAny_bind (wpAny_pure (wpAny_throw ?_))
 refine wpAny_bind (wpAny_isInstance (T:="StopIteration") (b:=true) ⟨_,Heap.get?_push_size _ rfl,rfl⟩ isSubtype_stop ?_)
 exact wpAny_pure (hQ _ ((hb.extBut.push _).push _))
theorem next_head {I S:Addr} {es:Array (Int×Value)} {ep i:Nat} {t:SetTable} {f:Value} {Q:Option Value→Shared→Prop} (K:SetK s.heap S es ep t) (x':SI s.heap I f i S es.size ep)
  (q:wpAny (model prog w) A.in1 (if let .int slot _:=f then do
    match ← setNext S slot.toNat i ep with
    | some (x,next)=>
     setField (.ref I) 0 (rawInt next)
     setField (.ref I) 1 (rawInt ((i:Int)+1))
     ret x
    | none=>setField (.ref I) 2 .none; raiseNew (← newExc (.type "StopIteration") [])
   else do
    let some places ← seqItems? f | unsupported "internal:set_iterator"
    match places[i]? with
    | some (.int place _)=>
     let x ← setNextDrawn S place.toNat ep
     setField (.ref I) 1 (rawInt ((i:Int)+1))
     ret x
    | some _=>unsupported "internal:set_iterator"
    | none=>setField (.ref I) 0 (rawInt 0); setField (.ref I) 2 .none; raiseNew (← newExc (.type "StopIteration") []))
   (fun fin s'=>∃ v,fin=Fin.done (Flow.ret v)∧wpAny (model prog w) A (pure (some v)) Q E s')
   (fun e s'=>wpAny (model prog w) A (isInstance e (.type "StopIteration")>>=fun b=>if b=true then pure none else throw e) Q E s') s) :
  wpAny (model prog w) A (pyNext (.ref I)) Q E s:=by
 obtain ⟨o,ho,hc,hd⟩:=id x'
 obtain ⟨⟨oS,hoS,hdS⟩,fi⟩:=id K
 unfold pyNext
 refine wpAny_bind (wpAny_attempt (wpAny_callSpecial?_slot (name:=Str.ofString "__next__") x'.typeIs si_next (wpAny_call_entry si_next x'.typeIs si_nextE ?_ (si_nextA _))))
 unfold Builtin.«set_iterator.__next__»
 refine wpAny_bind (wpAny_pure ?_)
 refine wpAny_bind (wpAny_fieldsOf ho hd ?_)
 dsimp only
 unfold setEntries
 refine wpAny_bind (wpAny_bind (wpAny_setState_of hoS hdS fi (wpAny_pure ?_)))
 rw [if_neg (by simp)]
 exact q
theorem next_slot {I S:Addr} {es:Array (Int×Value)} {ep i sl nx:Nat} {t:SetTable} {x:Value} {Q:Option Value→Shared→Prop} (K:SetK s.heap S es ep t) (x':SI s.heap I (.int sl 0) i S es.size ep)
  (hN:∀ {Q':Option (Value×Nat)→Shared→Prop} {E':Value→Shared→Prop},Q' (some (x,nx)) s→wpAny (model prog w) A.in1 (setNext S sl i ep) Q' E' s)
  (hQ:∀ h',SI h' I (.int nx 0) (i+1) S es.size ep→Heap.SameBut I s.heap h'→Q (some x) { s with heap:=h' }):wpAny (model prog w) A (pyNext (.ref I)) Q E s:=by
 obtain ⟨o,ho,hc,hd⟩:=id x'
 refine next_head K x' ?_
 refine wpAny_bind (hN ?_)
 dsimp only
 refine wpAny_bind (wpAny_setField ho hd (by simp) ?_)
 have h1:=Heap.get?_update_self (Obj.mapFields (·.setIfInBounds 0 (rawInt (nx:Int)))) ho (Obj.isFreed_of_fields (Obj.data_mapFields hd _))
 have d1:(Obj.mapFields (·.setIfInBounds 0 (rawInt (nx:Int))) o).data=.fields #[.int nx 0,.int i 0,.ref S,.int es.size 0,.int ep 0]:=by rw [Obj.data_mapFields hd]; simp [rawInt]
 have c1:(Obj.mapFields (·.setIfInBounds 0 (rawInt (nx:Int))) o).cls=.type "set_iterator":=(Obj.cls_mapFields ..).trans hc
 refine wpAny_bind (wpAny_setField h1 d1 (by simp) ?_)
 refine wpAny_pure ⟨_,rfl,wpAny_pure (hQ _ ?_ ((Heap.SameBut.update ..).trans (Heap.SameBut.update ..)))⟩
 exact ⟨_,Heap.get?_update_self _ h1 (Obj.isFreed_of_fields (Obj.data_mapFields d1 _)),(Obj.cls_mapFields ..).trans c1,by rw [Obj.data_mapFields d1]; simp [rawInt]⟩
theorem next_slotE {I S:Addr} {es:Array (Int×Value)} {ep i sl:Nat} {t:SetTable} {Q:Option Value→Shared→Prop} (hh:A.handled=none) (K:SetK s.heap S es ep t) (x':SI s.heap I (.int sl 0) i S es.size ep)
  (hN:∀ {Q':Option (Value×Nat)→Shared→Prop} {E':Value→Shared→Prop},Q' none s→wpAny (model prog w) A.in1 (setNext S sl i ep) Q' E' s)
  (hQ:∀ h',Heap.ExtBut I s.heap h'→Q none { s with heap:=h' }):wpAny (model prog w) A (pyNext (.ref I)) Q E s:=by
 obtain ⟨o,ho,hc,hd⟩:=id x'
 refine next_head K x' ?_
 refine wpAny_bind (hN ?_)
 dsimp only
 refine wpAny_bind (wpAny_setField ho hd (by simp) ?_)
 exact si_raise (s:=s) hh (Heap.SameBut.update ..) hQ
theorem next_place {I S P:Addr} {es:Array (Int×Value)} {ep i j:Nat} {t:SetTable} {x:Int×Value} {pl:Array Value} {c:Nat} {Q:Option Value→Shared→Prop} (K:SetK s.heap S es ep t) (x':SI s.heap I (.ref P) i S es.size ep)
  (hP:s.heap.get? P=some { cls:=.type "tuple",data:=.seq pl c }) (hj:pl[i]?=some (.int j 0)) (hx:es[j]?=some x)
  (hQ:∀ h',SI h' I (.ref P) (i+1) S es.size ep→Heap.SameBut I s.heap h'→Q (some x.2) { s with heap:=h' }):wpAny (model prog w) A (pyNext (.ref I)) Q E s:=by
 obtain ⟨o,ho,hc,hd⟩:=id x'
 obtain ⟨⟨oS,hoS,hdS⟩,fi⟩:=id K
 refine next_head K x' ?_
 refine wpAny_bind (wpAny_seqItems hP rfl ?_)
 dsimp only
 rw [hj]
 dsimp only
 unfold setNextDrawn
 refine wpAny_bind (wpAny_bind (wpAny_setState_of hoS hdS fi ?_))
 dsimp only
 rw [if_neg (by simp)]
 refine wpAny_bind (wpAny_pure ?_)
 rw [Int.toNat_natCast,hx]
 dsimp only
 refine wpAny_pure ?_
 refine wpAny_bind (wpAny_setField ho hd (by simp) ?_)
 refine wpAny_pure ⟨_,rfl,wpAny_pure (hQ _ (si_fields (f':=.none) ho hc hd) (Heap.SameBut.update ..))⟩
theorem next_placeE {I S P:Addr} {es:Array (Int×Value)} {ep i:Nat} {t:SetTable} {pl:Array Value} {c:Nat} {Q:Option Value→Shared→Prop} (hh:A.handled=none) (K:SetK s.heap S es ep t) (x':SI s.heap I (.ref P) i S es.size ep)
  (hP:s.heap.get? P=some { cls:=.type "tuple",data:=.seq pl c }) (hj:pl[i]?=none)
  (hQ:∀ h',Heap.ExtBut I s.heap h'→Q none { s with heap:=h' }):wpAny (model prog w) A (pyNext (.ref I)) Q E s:=by
 obtain ⟨o,ho,hc,hd⟩:=id x'
 refine next_head K x' ?_
 refine wpAny_bind (wpAny_seqItems hP rfl ?_)
 dsimp only
 rw [hj]
 dsimp only
 refine wpAny_bind (wpAny_setField ho hd (by simp) ?_)
 have h1:=Heap.get?_update_self (Obj.mapFields (·.setIfInBounds 0 (rawInt 0))) ho (Obj.isFreed_of_fields (Obj.data_mapFields hd _))
 refine wpAny_bind (wpAny_setField h1 (Obj.data_mapFields hd _) (by simp) ?_)
 exact si_raise (s:=s) hh ((Heap.SameBut.update ..).trans (Heap.SameBut.update ..)) hQ
theorem setNext_text {S:Addr} {es:Array (Int×Value)} {ep i:Nat} {t:SetTable} (hw:w.params.followText "set-order"=true) (K:SetK s.heap S es ep t) {Q:Option (Value×Nat)→Shared→Prop} (h:Q (((pickOrder (w.params.setOrder S ep) es)[i]?).map fun e=>(e.2,0)) s) :
  wpAny (model prog w) A (setNext S 0 i ep) Q E s:=by
 obtain ⟨⟨oS,hoS,hdS⟩,fi⟩:=id K
 unfold setNext setsByText
 refine wpAny_bind (wpAny_setState_of hoS hdS fi ?_)
 dsimp only
 refine wpAny_bind (wpAny_bind (wpAny_askSetting (wpAny_pure ?_)))
 have hw':(model prog w).w.params.followText "set-order"=true:=hw
 rw [if_pos hw',if_neg (by simp)]
 unfold setWalk setsByText
 refine wpAny_bind (wpAny_bind (wpAny_setState_of hoS hdS fi ?_))
 dsimp only
 refine wpAny_bind (wpAny_bind (wpAny_askSetting (wpAny_pure ?_)))
 rw [if_pos hw']
 refine wpAny_bind (wpAny_askSetting (wpAny_pure (wpAny_pure h)))
theorem setNext_one {S:Addr} {es:Array (Int×Value)} {ep i sl:Nat} {t:SetTable} (hw:w.params.followText "set-order"=false) (K:SetK s.heap S es ep t) (hl:t.led=true) (h1:es.size≤1) {Q:Option (Value×Nat)→Shared→Prop}
  (h:Q (match es[SetTable.below t.place sl]?,t.place[SetTable.below t.place sl]? with | some (_,x),some j=>some (x,j+1) | _,_=>none) s) :
  wpAny (model prog w) A (setNext S sl i ep) Q E s:=by
 obtain ⟨⟨oS,hoS,hdS⟩,fi⟩:=id K
 unfold setNext setsByText
 refine wpAny_bind (wpAny_setState_of hoS hdS fi ?_)
 dsimp only
 refine wpAny_bind (wpAny_bind (wpAny_askSetting (wpAny_pure ?_)))
 have hf:¬ ((model prog w).w.params.followText "set-order" = true):=by rw [show (model prog w).w.params.followText "set-order" = false from hw]; exact Bool.false_ne_true
 rw [if_neg hf]
 have hs:¬ (es.size>1):=by omega
 show wpAny _ _ (if (!t.plain&&decide (es.size>1))=true then _ else _) _ _ _
 rw [if_neg (by simp [hs])]
 show wpAny _ _ ((if (!t.led&&!es.isEmpty)=true then _ else _)>>=_) _ _ _
 rw [if_neg (by simp [hl])]
 exact wpAny_bind (wpAny_pure (wpAny_pure h))
end
end L2
namespace L2
open PySem PySem.Spec PySem.Calls PyProof.Rows
section
variable {prog:Program} {w:World} {A:Around} {E:Value→Shared→Prop} {s:Shared}
theorem walks_text (hh:A.handled=none) {I S:Addr} (hne:S≠I) {es:Array (Int×Value)} {ep:Nat} {t:SetTable} (hw:w.params.followText "set-order"=true) {vs:List Value} (hv:vs=(pickOrder (w.params.setOrder S ep) es).toList.map (·.2)) :
  Walks prog w A I [I,S] [I] vs.length (fun i v=>vs[i]?=some v) (fun i h=>SI h I (.int 0 0) i S es.size ep∧SetK h S es ep t) where
 sub:=fun b hb=>by simp at hb; simp [hb]
 frame:=fun _ _ _ st hk=>⟨st.1.at fun o e=>hk I (by simp) o e,st.2.keep fun o e=>hk S (by simp) o e⟩
 item:=fun i s Q E hi st hQ=>by
  obtain ⟨v,e2⟩:∃ v,vs[i]?=some v:=⟨_,List.getElem?_eq_getElem hi⟩
  rw [hv,List.getElem?_map,Array.getElem?_toList] at e2
  cases q:(pickOrder (w.params.setOrder S ep) es)[i]? with
  | none=>rw [q] at e2; cases e2
  | some x=>
   refine next_slot (x:=x.2) (nx:=0) (sl:=0) st.2 st.1 (fun h=>setNext_text hw st.2 (by rw [q]; exact h)) fun h' a b=>hQ _ h' s.toks ?_ ⟨a,st.2.keep fun o e=>(b.2 S hne).trans e⟩ fun b' o hb e=>b.extBut b' o (fun h=>hb (by simp [h])) e
   rw [hv,List.getElem?_map,Array.getElem?_toList,q]
   rfl
 done:=fun s Q E st hQ=>by
  refine next_slotE (sl:=0) hh st.2 st.1 (fun h=>setNext_text hw st.2 ?_) fun h' b=>hQ h' s.toks fun b' o hb e=>b b' o (fun h=>hb (by simp [h])) e
  have:(pickOrder (w.params.setOrder S ep) es)[vs.length]?=none:=by
   rw [hv,List.length_map,Array.length_toList]
   exact Array.getElem?_eq_none (Nat.le_refl _)
  rw [this]
  exact h
 self:=fun _ _ _ _ st hQ=>si_self st.1 hQ
theorem walks_places (hh:A.handled=none) {I S P:Addr} (hne:S≠I) (hP:P≠I) {es:Array (Int×Value)} {ep:Nat} {t:SetTable} {ys:List Nat} (hy:∀ j∈ys,j<es.size) {vs:List Value} (hv:vs=ys.map fun j=>(es[j]?.map (·.2)).getD .none) :
  Walks prog w A I [I,S,P] [I] vs.length (fun i v=>vs[i]?=some v) (fun i h=>SI h I (.ref P) i S es.size ep∧SetK h S es ep t∧h.get? P=some { cls:=.type "tuple",data:=.seq (ys.map fun (i:Nat)=>rawInt i).toArray }) where
 sub:=fun b hb=>by simp at hb; simp [hb]
 frame:=fun _ _ _ st hk=>⟨st.1.at fun o e=>hk I (by simp) o e,st.2.1.keep fun o e=>hk S (by simp) o e,hk P (by simp) _ st.2.2⟩
 item:=fun i s Q E hi st hQ=>by
  have hi':i<ys.length:=by rw [hv,List.length_map] at hi; exact hi
  have hj:=hy _ (List.getElem_mem hi')
  have ex:es[ys[i]]?=some es[ys[i]]:=Array.getElem?_eq_getElem hj
  refine next_place (x:=es[ys[i]]) (j:=ys[i]) st.2.1 st.1 st.2.2 (by simp [rawInt,hi']) ex fun h' a b=>hQ _ h' s.toks ?_ ⟨a,st.2.1.keep fun o e=>(b.2 S hne).trans e,(b.2 P hP).trans st.2.2⟩ fun b' o hb e=>b.extBut b' o (fun h=>hb (by simp [h])) e
  rw [hv,List.getElem?_map,List.getElem?_eq_getElem hi',Option.map_some,ex]
  rfl
 done:=fun s Q E st hQ=>by
  refine next_placeE hh st.2.1 st.1 st.2.2 (by rw [hv]; simp) fun h' b=>hQ h' s.toks fun b' o hb e=>b b' o (fun h=>hb (by simp [h])) e
 self:=fun _ _ _ _ st hQ=>si_self st.1 hQ
theorem walks_one (hh:A.handled=none) {I S:Addr} (hne:S≠I) {es:Array (Int×Value)} {ep:Nat} {t:SetTable} (hw:w.params.followText "set-order"=false) (hl:t.led=true) (h1:es.size≤1) (fi:t.fits es.size=true) {vs:List Value} (hv:vs=es.toList.map (·.2)) :
  Walks prog w A I [I,S] [I] vs.length (fun i v=>vs[i]?=some v) (fun i h=>∃ sl:Nat,SI h I (.int sl 0) i S es.size ep∧SetK h S es ep t∧(i=0∧sl=0∨i=1∧∃ j,t.place[0]?=some j∧sl=j+1)) where
 sub:=fun b hb=>by simp at hb; simp [hb]
 frame:=fun _ _ _ ⟨sl,a,b,c⟩ hk=>⟨sl,a.at fun o e=>hk I (by simp) o e,b.keep fun o e=>hk S (by simp) o e,c⟩
 item:=fun i s Q E hi ⟨sl,a,b,c⟩ hQ=>by
  have hn:vs.length=es.size:=by rw [hv,List.length_map,Array.length_toList]
  have hi0:i=0:=by omega
  have hs:es.size=1:=by omega
  have hp:t.place.size=1:=by
   simp only [SetTable.fits,Bool.and_eq_true,beq_iff_eq,decide_eq_true_eq] at fi
   omega
  subst hi0
  have hsl:sl=0:=by
   rcases c with c | c
   ·exact c.2
   ·exact absurd c.1 (by decide)
  subst hsl
  have bl:SetTable.below t.place 0=0:=by
   unfold SetTable.below
   rw [hp]
   unfold SetTable.below.go
   simp [SetTable.below.go]
  obtain ⟨x,e0⟩:∃ x,es[0]?=some x:=⟨_,Array.getElem?_eq_getElem (by omega)⟩
  have p0:t.place[0]?=some t.place[0]:=Array.getElem?_eq_getElem (by omega)
  refine next_slot (x:=x.2) (nx:=t.place[0]+1) (sl:=0) b a (fun h=>setNext_one hw b hl h1 ?_) fun h' a' b'=>hQ _ h' s.toks ?_ ⟨_,a',b.keep fun o e=>(b'.2 S hne).trans e,.inr ⟨rfl,_,p0,rfl⟩⟩ fun b'' o hb e=>b'.extBut b'' o (fun h=>hb (by simp [h])) e
  ·rw [bl,e0,p0]
   exact h
  ·rw [hv,List.getElem?_map,Array.getElem?_toList,e0]
   rfl
 done:=fun s Q E ⟨sl,a,b,c⟩ hQ=>by
  have hn:vs.length=es.size:=by rw [hv,List.length_map,Array.length_toList]
  have hp:t.place.size=es.size:=by
   simp only [SetTable.fits,Bool.and_eq_true,beq_iff_eq,decide_eq_true_eq] at fi
   omega
  refine next_slotE hh b a (fun h=>setNext_one hw b hl h1 ?_) fun h' b'=>hQ h' s.toks fun b'' o hb e=>b' b'' o (fun h=>hb (by simp [h])) e
  have:es[SetTable.below t.place sl]?=none:=by
   refine Array.getElem?_eq_none ?_
   rcases c with ⟨c1,c2⟩ | ⟨c1,j,c2,c3⟩
   ·omega
   ·have hs:es.size=1:=by omega
    subst c3
    have g:t.place.getD 0 (j+1)=j:=by rw [Array.getD_eq_getD_getElem?,c2]; rfl
    unfold SetTable.below
    rw [hp,hs]
    unfold SetTable.below.go
    simp [SetTable.below.go,g]
  rw [this]
  exact h
 self:=fun _ _ _ _ ⟨_,a,_⟩ hQ=>si_self a hQ
theorem perm_of_sub {α:Type} [DecidableEq α]:∀ {l m:List α},l.Nodup→(∀ x∈l,x∈m)→m.length≤l.length→l.Perm m
 | [],[],_,_,_=>.nil
 | [],_::_,_,_,h=>absurd h (by simp)
 | a::l,m,hn,hs,hl=>by
  obtain ⟨ha,hn⟩:=List.nodup_cons.mp hn
  have hm:a∈m:=hs a (.head _)
  have p:=List.perm_cons_erase hm
  refine ((perm_of_sub (l:=l) (m:=m.erase a) hn (fun x hx=>?_) ?_).cons a).trans p.symm
  ·have:=p.mem_iff.mp (hs x (.tail _ hx))
   rcases List.mem_cons.mp this with e | e
   ·exact absurd (e▸hx) ha
   ·exact e
  ·rw [List.length_erase_of_mem hm]
   simp at hl
   omega
inductive Txts:List Value→List Str→Prop
 | nil:Txts [] []
 | cons {z:Str} {t:Tok} {vs:List Value} {zs:List Str} (h:Txts vs zs):Txts (.str z t::vs) (z::zs)
theorem Txts.perm {vs vs':List Value} (p:vs'.Perm vs):∀ {zs:List Str},Txts vs zs→∃ zs',Txts vs' zs'∧zs'.Perm zs:=by
 induction p with
 | nil=>exact fun h=>⟨_,h,.refl _⟩
 | cons x p ih=>
  intro zs h
  cases h with
  | cons h=>obtain ⟨zs',a,b⟩:=ih h; exact ⟨_,.cons a,b.cons _⟩
 | swap x y l=>
  intro zs h
  cases h with
  | cons h=>cases h with
   | cons h=>exact ⟨_,.cons (.cons h),.swap ..⟩
 | trans p1 p2 i1 i2=>
  intro zs h
  obtain ⟨z1,a1,b1⟩:=i2 h
  obtain ⟨z2,a2,b2⟩:=i1 a1
  exact ⟨z2,a2,b2.trans b1⟩
theorem Txts.mem {vs:List Value} {zs:List Str} (h:Txts vs zs) (z:Str):z∈zs↔∃ v∈vs,(PySem.strKind prog w).is z v=true:=by
 induction h with
 | nil=>simp
 | cons h ih=>
  rename_i z' t vs zs
  rw [List.mem_cons,ih]
  constructor
  ·rintro (rfl | ⟨v,a,b⟩)
   ·exact ⟨_,.head _,beq_self_eq_true z⟩
   ·exact ⟨v,.tail _ a,b⟩
  ·rintro ⟨v,a,b⟩
   rcases List.mem_cons.mp a with rfl | a
   ·exact .inl (beq_iff_eq.mp (show (z'==z)=true from b)).symm
   ·exact .inr ⟨v,a,b⟩
theorem Txts.length {vs:List Value} {zs:List Str} (h:Txts vs zs):zs.length=vs.length:=by
 induction h with
 | nil=>rfl
 | cons h ih=>simp [ih]
theorem str_is {z:Str} {v:Value} (h:(PySem.strKind prog w).is z v=true):∃ t,v=.str z t:=by
 cases v with
 | str z' t=>exact ⟨t,by rw [← beq_iff_eq.mp h]⟩
 | _=>cases h
theorem txts_of:∀ {l:List (Int×Value)},ElemsOf (PySem.strKind prog w) l→∃ zs,Txts (l.map (·.2)) zs
 | [],_=>⟨[],.nil⟩
 | e::l,h=>by
  obtain ⟨zs,a⟩:=txts_of h.tail
  obtain ⟨⟨k,hk,_⟩,_⟩:=h.head
  obtain ⟨t,ht⟩:=str_is hk
  refine ⟨k::zs,?_⟩
  rw [List.map_cons,ht]
  exact .cons a
theorem SetO.texts {ss:List Str} {L:Bool} {o:Obj} {es:Array (Int×Value)} {ep:Nat} {t:SetTable} (S:SetO prog w ss L o es ep t) {vs:List Value} (p:vs.Perm (es.toList.map (·.2))):∃ zs,Txts vs zs∧zs.Perm (unl ss []):=by
 obtain ⟨z0,a⟩:=txts_of S.el
 obtain ⟨zs,b,c⟩:=a.perm p
 refine ⟨zs,b,c.trans (perm_of_sub (unl_nodup ss [] .nil) (fun z hz=>?_) ?_).symm⟩
 ·obtain ⟨e,he,q⟩:=(S.me z).mp hz
  exact (a.mem z).mpr ⟨_,List.mem_map_of_mem he,q⟩
 ·rw [a.length,List.length_map,Array.length_toList,S.sz]
  exact Nat.le_refl _
theorem setDrawn_is {S:Addr} {es:Array (Int×Value)} {ep:Nat} {t:SetTable} (K:SetK s.heap S es ep t) {Q:Bool→Shared→Prop} (h:Q (!w.params.followText "set-order" && (!t.plain&&decide (es.size>1))) s):wpAny (model prog w) A (setDrawn S) Q E s:=by
 obtain ⟨⟨oS,hoS,hdS⟩,fi⟩:=id K
 unfold setDrawn setsByText
 refine wpAny_bind (wpAny_setState_of hoS hdS fi ?_)
 dsimp only
 exact wpAny_bind (wpAny_bind (wpAny_askSetting (wpAny_pure (wpAny_pure h))))
theorem iter_sset {S:Addr} {ss:List Str} (T:SSet s.heap S prog w ss (ledW w)) (hz:(unl ss []).length≤sizeLine) {Q:Value→Shared→Prop}
  (q:∀ (h':Heap) (d:Drawn) (I:Addr) (fp:List Addr) (vs:List Value) (zs:List Str) (St:Nat→Heap→Prop),(∀ b o,s.heap.get? b=some o→h'.get? b=some o)→s.heap.objs.size≤I→(∀ b∈fp,b=S∨s.heap.objs.size≤b) →
   (∀ A':Around,A'.handled=none→Walks prog w A' I fp [I] vs.length (fun i v=>vs[i]?=some v) St)→St 0 h'→Txts vs zs→zs.Perm (unl ss [])→Q (.ref I) { s with heap:=h',drawn:=d }) :
  wpAny (model prog w) A (pyIter (.ref S)) Q E s:=by
 obtain ⟨o,es,ep,t,ho,O⟩:=T
 have hT:s.TypeIs (.ref S) "set":=⟨o,ho,O.ex.1⟩
 have K:SetK s.heap S es ep t:=⟨⟨o,ho,O.da⟩,O.fi⟩
 have hS:S<s.heap.objs.size:=Heap.lt_size ho
 refine wpAny_pyIter_slot hT F.slot_set_iter (wpAny_call_entry F.slot_set_iter hT set_iterE ?_ (F.args_set_iter_1 _))
 unfold Builtin.«frozenset.__iter__» Builtin.Frozenset.slot0 Builtin.Frozenset.sizeOf setEntries
 refine wpAny_bind (wpAny_bind (m:=slotArgs "__iter__" 0 _) (wpAny_pure (wpAny_of_eq (a:=S) (by rfl) ?_)))
 refine wpAny_bind (wpAny_bind (wpAny_bind (wpAny_setState_of ho O.da O.fi (wpAny_pure (wpAny_pure ?_)))))
 refine wpAny_bind (setDrawn_is K ?_)
 dsimp only
 cases hw:w.params.followText "set-order" with
 | true=>
  simp only [Bool.not_true,Bool.false_and,Bool.false_eq_true,if_false]
  refine wpAny_bind (wpAny_pure (wpAny_bind (wpAny_setEpoch_of ho O.da O.fi ?_)))
  refine wpAny_bind (wpAny_newObj_type (wpAny_pure ⟨_,rfl,"set_iterator",_,⟨_,Heap.get?_push_size _ rfl,rfl⟩,si_next.lookup,?_⟩))
  obtain ⟨zs,a,b⟩:=O.texts (vs:=(pickOrder (w.params.setOrder S ep) es).toList.map (·.2)) ((pick_perm _ es).map _)
  exact q _ s.drawn _ _ _ zs _ (fun b o e=>Heap.get?_push_of_some _ e) (Nat.le_refl _) (fun b hb=>by simp at hb; rcases hb with rfl | rfl; exact .inr (Nat.le_refl _); exact .inl rfl) (fun A' hh=>walks_text (t:=t) hh (Nat.ne_of_lt hS) hw rfl) ⟨⟨_,Heap.get?_push_size _ rfl,rfl,rfl⟩,K.keep fun o e=>Heap.get?_push_of_some _ e⟩ a b
 | false=>
  have hL:t.led=true:=by rw [O.le,ledW,hw]; rfl
  by_cases h1:es.size>1
  ·have hp:t.plain=false:=by
    rcases O.pl with e | e
    ·omega
    ·exact e
   simp only [hp,Bool.not_false,Bool.true_and,decide_eq_true h1,if_true]
   refine wpAny_bind (draw_perm es.size (List.range es.size) s (by simp) fun ys d hy=>?_)
   have hyl:ys.length=es.size:=by rw [hy.length_eq,List.length_range]
   refine wpAny_bind (wpAny_newTuple ?_ (by rw [List.length_map,hyl,O.sz]; exact hz))
   have g1:({ s with drawn:=d }:Shared).heap=s.heap:=rfl
   have k1:∀ (o':Obj) b o,s.heap.get? b=some o→(s.heap.push o').get? b=some o:=fun o' b o e=>Heap.get?_push_of_some _ e
   refine wpAny_bind (wpAny_setEpoch_of (k1 _ _ _ ho) O.da O.fi ?_)
   refine wpAny_bind (wpAny_newObj_type (wpAny_pure ⟨_,rfl,"set_iterator",_,⟨_,Heap.get?_push_size _ rfl,rfl⟩,si_next.lookup,?_⟩))
   have hys:∀ j∈ys,j<es.size:=fun j hj=>List.mem_range.mp (hy.mem_iff.mp hj)
   have pv:(ys.map fun j=>(es[j]?.map (·.2)).getD .none).Perm (es.toList.map (·.2)):=by
    refine (hy.map _).trans ?_
    refine List.Perm.of_eq (List.ext_getElem? fun i=>?_)
    rw [List.getElem?_map,List.getElem?_map,Array.getElem?_toList (xs:=es)]
    by_cases hi:i<es.size
    ·rw [List.getElem?_range hi,Array.getElem?_eq_getElem hi]
     simp [hi]
    ·rw [List.getElem?_eq_none (by simpa using hi),Array.getElem?_eq_none (by omega)]
     rfl
   obtain ⟨zs,a,b⟩:=O.texts pv
   refine q _ d _ _ _ zs _ (fun b o e=>Heap.get?_push_of_some _ (Heap.get?_push_of_some _ e)) (by rw [size_push']; exact Nat.le_succ _) (fun b hb=>?_) (fun A' hh=>walks_places (t:=t) (ep:=ep) (P:=s.heap.objs.size) hh (by rw [size_push']; exact Nat.ne_of_lt (Nat.lt_succ_of_lt hS)) (by rw [size_push']; exact Nat.ne_of_lt (Nat.lt_succ_self _)) hys rfl) ⟨⟨_,Heap.get?_push_size _ rfl,rfl,rfl⟩,K.keep fun o e=>Heap.get?_push_of_some _ (Heap.get?_push_of_some _ e),Heap.get?_push_of_some _ (Heap.get?_push_size _ rfl)⟩ a b
   simp only [List.mem_cons,List.not_mem_nil,or_false] at hb
   rcases hb with rfl | rfl | rfl
   ·exact .inr (by rw [size_push']; exact Nat.le_succ _)
   ·exact .inl rfl
   ·exact .inr (Nat.le_refl _)
  ·simp only [decide_eq_false h1,Bool.and_false,Bool.false_eq_true,if_false]
   refine wpAny_bind (wpAny_pure (wpAny_bind (wpAny_setEpoch_of ho O.da O.fi ?_)))
   refine wpAny_bind (wpAny_newObj_type (wpAny_pure ⟨_,rfl,"set_iterator",_,⟨_,Heap.get?_push_size _ rfl,rfl⟩,si_next.lookup,?_⟩))
   obtain ⟨zs,a,b⟩:=O.texts (vs:=es.toList.map (·.2)) (.refl _)
   exact q _ s.drawn _ _ _ zs _ (fun b o e=>Heap.get?_push_of_some _ e) (Nat.le_refl _) (fun b hb=>by simp at hb; rcases hb with rfl | rfl; exact .inr (Nat.le_refl _); exact .inl rfl) (fun A' hh=>walks_one (t:=t) hh (Nat.ne_of_lt hS) hw hL (by omega) O.fi rfl) ⟨0,⟨_,Heap.get?_push_size _ rfl,rfl,rfl⟩,K.keep fun o e=>Heap.get?_push_of_some _ e,.inl ⟨rfl,rfl⟩⟩ a b
theorem hint_set {r:Addr} {Q:Bool→Shared→Prop} (hT:s.TypeIs (.ref r) "set") (h:Q false s):wpAny (model prog w) A (Builtin.List.listLengthHint (.ref r)) Q E s:=by
 unfold Builtin.List.listLengthHint
 refine wpAny_bind (wpAny_specialOf hT F.slot_set_len.lookup ?_)
 generalize hid:("set.__len__" : String)=id0
 wp_delta
 rw [show splitId id0=some ("set","__len__") from by subst hid; decide +kernel]
 subst hid
 refine wpAny_bind (wpAny_isInstance (T:="set") (b:=true) hT (by rw [isSubtype_type]; kernel_rfl) ?_)
 refine wpAny_ite_split (fun hab=>absurd hab (by decide)) (fun _=>?_)
 refine wpAny_ite_split (fun _=>?_) (fun hab=>absurd (by decide +kernel) hab)
 exact wpAny_bind (wpAny_typeOf hT (wpAny_pure h))
theorem extend_sset {R:Result→Shared→Prop} {S L:Addr} {ss:List Str} (hh:A.handled=none) (T:SSet s.heap S prog w ss (ledW w)) (hz:(unl ss []).length≤sizeLine) (hne:L≠S) (res:Value) (hL:s.heap.get? L=some { cls:=.type "list",data:=.seq #[] 0 })
  (hR:∀ h' tk d acc c zs,(∀ b o,b≠L→s.heap.get? b=some o→h'.get? b=some o)→h'.get? L=some { cls:=.type "list",dict:=none,data:=.seq acc c,slots:=#[] }→Txts acc.toList zs→zs.Perm (unl ss [])→R (.ok (.ret res)) { s with heap:=h',toks:=tk,drawn:=d }) :
  wpAny (model prog w) A.in1 (Builtin.List.listExtendWith (.ref L) (.ref S) res)
   (fun fin s'=>match fin with | .done f=>R (.ok f) s' | .again c'=>c'.quiet=true∧codeAny (model prog w) A c' R s') (fun e s'=>R (.error e) s') s:=by
 have hLs:L<s.heap.objs.size:=Heap.lt_size hL
 have hT:s.TypeIs (.ref S) "set":=let ⟨o,_,_,_,ho,O⟩:=T; ⟨o,ho,O.ex.1⟩
 unfold Builtin.List.listExtendWith
 refine wpAny_bind (wpAny_typeOf (T:="set") hT ?_)
 have h1:Builtin.List.listSameRef (.ref L) (.ref S)=false:=by simp [Builtin.List.listSameRef,hne]
 have n1:(Value.type "set" == Value.type "list")=false:=by decide
 have n2:(Value.type "set" == Value.type "tuple")=false:=by decide
 simp only [h1,n1,n2,Bool.or_false,Bool.false_eq_true,if_false]
 refine wpAny_bind (iter_sset T hz fun h1 d I fp vs zs St k hI hfp W st tx pz=>?_)
 have hT1:Shared.TypeIs { s with heap:=h1,drawn:=d } (.ref S) "set":=let ⟨o,ho,e⟩:=hT; ⟨o,k S o ho,e⟩
 refine wpAny_bind (wpAny_holding (hint_set hT1 ?_))
 have hLf:L∉fp:=fun q=>by
  rcases hfp L q with e | e
  ·exact hne e
  ·exact absurd (Nat.lt_of_lt_of_le hLs e) (Nat.lt_irrefl _)
 have hn:vs.length≤sizeLine:=by rw [← tx.length,pz.length_eq]; exact hz
 have key:∀ (h:Heap) (c₁:Nat),St 0 h→(∀ b o,b≠L→s.heap.get? b=some o→h.get? b=some o)→h.get? L=some { cls:=.type "list",data:=.seq #[] c₁ } →
   codeAny (model prog w) A (.builtin "list.extend.loop" ⟨[.ref L,.ref I,res],[]⟩) R { s with heap:=h,drawn:=d }:=by
  intro h c₁ st k hL
  refine codeAny_extend_loopS (W A.in1 hh).toS hn L hLf res vs.length 0 _ #[] c₁ rfl (Nat.zero_le _) st hL (ItemsOf.nil _) fun s' acc c hm hS' hacc=>?_
  rw [Moved.eq_with hm]
  refine hR s'.heap s'.toks d acc c zs (fun b o hb e=>hm.heap b o (fun hmem=>?_) (k b o hb e)) hS' ?_ pz
  ·rcases List.mem_cons.mp hmem with e' | hmem
   ·exact hb e'
   ·have:=Heap.lt_size e
    rw [List.mem_singleton.mp hmem] at this
    exact absurd (Nat.lt_of_lt_of_le this hI) (Nat.lt_irrefl _)
  ·have:acc.toList=vs:=by
    refine List.ext_getElem? fun i=>?_
    by_cases hi:i<acc.size
    ·have e1:acc[i]?=some acc[i]:=Array.getElem?_eq_getElem hi
     rw [Array.getElem?_toList,hacc.2 i _ e1,e1]
    ·rw [List.getElem?_eq_none (by simpa using hi),List.getElem?_eq_none (by rw [← hacc.1]; omega)]
   rw [this]
   exact tx
 refine wpAny_ite_split (fun _=>?_) (fun _=>wpAny_pure ⟨plainId_quiet PySem.F.plain_extend_loop _,key _ 0 st (fun b o _ e=>k b o e) (k L _ hL)⟩)
 refine wpAny_bind (wpAny_rule ?_)
 refine wpAny_bind ?_
 show wpAny _ _ (updateSeq L (·.push .none)>>=fun _=>updateSeq L (·.pop)) _ _ _
 have e1:=k L _ hL
 refine wpAny_bind (wpAny_updateSeq e1 rfl ?_)
 have e2:=Heap.get?_update_self (Obj.mapSeq (·.push Value.none)) e1 rfl
 refine wpAny_updateSeq (hz:=by seq_fits) e2 rfl ?_
 have e3:=Heap.get?_update_self (Obj.mapSeq (·.pop)) e2 rfl
 have oth:∀ b o,b≠L→h1.get? b=some o→((h1.update L (Obj.mapSeq (·.push Value.none))).update L (Obj.mapSeq (·.pop))).get? b=some o:=fun b o hb e=>(Heap.get?_update_other _ _ (Ne.symm hb)).trans ((Heap.get?_update_other _ _ (Ne.symm hb)).trans e)
 exact wpAny_pure ⟨plainId_quiet PySem.F.plain_extend_loop _,key _ _ ((W A.in1 hh).frame 0 _ _ st fun b hb o e=>oth b o (fun q=>hLf (q▸hb)) e) (fun b o hb e=>oth b o hb (k b o e)) e3⟩
theorem collect_sset {R:List Value→Shared→Prop} {S:Addr} {ss:List Str} (hh:A.handled=none) (T:SSet s.heap S prog w ss (ledW w)) (hz:(unl ss []).length≤sizeLine)
  (h:∀ (h':Heap) (tk:Nat) (d:Drawn) (acc:List Value) (zs:List Str),(∀ b o,s.heap.get? b=some o→h'.get? b=some o)→Txts acc zs→zs.Perm (unl ss [])→R acc { s with heap:=h',toks:=tk,drawn:=d }) :
  wpAny (model prog w) A (collect (.ref S)) R E s:=by
 have hS:S<s.heap.objs.size:=let ⟨o,_,_,_,ho,_⟩:=T; Heap.lt_size ho
 unfold collect
 refine wpAny_bind (wpAny_runValue (codeAny_builtin entry_proto_collect' ?_))
 rw [Around.under_plainId PySem.F.plain_proto_collect _]
 show wpAny _ A.in1 (newList []>>=fun l=>again (.builtin "list.__iadd__" ⟨[l,.ref S],[]⟩)) _ _ s
 refine wpAny_bind (wpAny_newObj_type ?_)
 refine wpAny_pure ⟨plainId_quiet PySem.F.plain_list_iadd _,codeAny_builtin entry_list_iadd' ?_⟩
 rw [Around.under_plainId PySem.F.plain_list_iadd _]
 have hL:(s.heap.push { cls:=.type "list",data:=.seq ([]:List Value).toArray }).get? s.heap.objs.size=some { cls:=.type "list",data:=.seq #[] }:=Heap.get?_push_size _ rfl
 show wpAny _ A.in1 (Builtin.List.listExtendWith (.ref s.heap.objs.size) (.ref S) (.ref s.heap.objs.size)) _ _ _
 have key:=extend_sset (A:=A) (s:={ s with heap:=s.heap.push { cls:=.type "list",data:=.seq ([]:List Value).toArray } }) (ss:=ss)
  (R:=fun (q:Result) (s':Shared)=>∃ h' tk d acc c zs,q=.ok (.ret (.ref s.heap.objs.size))∧s'={ s with heap:=h',toks:=tk,drawn:=d }∧(∀ b o,s.heap.get? b=some o→h'.get? b=some o)∧h'.get? s.heap.objs.size=some { cls:=.type "list",dict:=none,data:=.seq acc c,slots:=#[] }∧Txts acc.toList zs∧zs.Perm (unl ss []))
  hh (sset_at T fun o e=>Heap.get?_push_of_some _ e) hz (Nat.ne_of_gt hS) (.ref s.heap.objs.size) hL
  (fun h' tk d acc c zs k e1 e2 e3=>⟨h',tk,d,acc,c,zs,rfl,rfl,fun b o e=>k b o (Nat.ne_of_lt (Heap.lt_size e)) (Heap.get?_push_of_some _ e),e1,e2,e3⟩)
 refine wpAny_mono key (fun fin s' x=>?_) fun e s' x=>?_
 ·cases fin with
  | done f=>
   obtain ⟨h',tk,d,acc,c,zs,e,rfl,k,hS',tx,pz⟩:=x
   cases e
   exact wpAny_bind (wpAny_load hS' (wpAny_pure (h h' tk d acc.toList zs k tx pz)))
  | again c₁=>
   refine ⟨x.1,codeAny_mono x.2 fun q s₂ y=>?_⟩
   obtain ⟨h',tk,d,acc,c,zs,rfl,rfl,k,hS',tx,pz⟩:=y
   exact wpAny_bind (wpAny_load hS' (wpAny_pure (h h' tk d acc.toList zs k tx pz)))
 ·obtain ⟨h',tk,d,acc,c,zs,e,_⟩:=x
  cases e
end
end L2
namespace L2
open PySem PySem.Spec PySem.Calls PyProof.Rows PySem.W
section
variable {X:Cx}
noncomputable def SetIs (P:Program) (w:World) (a:Addr) (ss:List Str):Heap→Prop:=fun h=>SSet h a P w ss (ledW w)
inductive SetOfL (X:Cx) (xs:List V) (H:Hp) (Q:VK):Prop
 | mk (a:Addr) (ss:List Str) (h0_:xs=[.ref a]) (h1_:SqL X.K H a (ss.map V.str)) (h2_:ss.length≤1000) (h3_:∀ p,H p=none→Q (.ref p) (upd H p (.ext (SetIs X.prog X.w p ss))))
theorem strs_at {us:List Value} {ss:List Str} (r:Vals (ss.map V.str) us) (i:Nat) (v:Value) (h:us.toArray[i]?=some v):∃ z t,ss[i]?=some z∧v=.str z t:=by
 rw [List.getElem?_toArray] at h
 induction ss generalizing us i with
 | nil=>cases r; cases h
 | cons z ss ih=>
  cases r with
  | cons r1 r2=>
   cases i with
   | zero=>
    obtain ⟨t,rfl⟩:=r1
    cases h
    exact ⟨z,t,rfl,rfl⟩
   | succ i=>exact ih r2 i (by simpa using h)
theorem call_set (hc:X.calm=true):CallR X (.type "set") (SetOfL X):=by
 intro pins s σ H xs us Q I r h
 obtain ⟨a,ss,rfl,hs,hz,q⟩:=h
 obtain ⟨u,rfl,rx⟩:=vals1 r
 cases rx
 obtain ⟨its,rv,pl,_⟩:=I.list hs
 have hl:its.length=ss.length:=by rw [← rv.length,List.length_map]
 refine call_sset (I.ok.hd hc) pl.isList (by rw [List.size_toArray,hl]) (by rw [List.size_toArray,hl]; unfold scanBound; omega) (strs_at rv) fun h' tk T k=>?_
 refine ⟨.ref s.heap.objs.size,_,I.laid (t':=tk) k (Nat.le_refl _) ?_,rfl,q _ (I.hok.fresh (Nat.le_refl _))⟩
 exact ⟨T,let ⟨o,_,_,_,e,_⟩:=T; ⟨o,e⟩,fun h1 h2 T1 k1=>sset_at T1 k1⟩
theorem Inv.drew {pins:List (Addr×Obj)} {σ:List (Option V)} {H:Hp} {s:Shared} (I:Inv X pins σ H s) (d:Drawn):Inv X pins σ H { s with drawn:=d }:=⟨I.ok,I.os,I.bare,I.base,I.loc,I.cell,I.free,I.freeC,I.pin,I.hok,I.len⟩
theorem txts_vals {vs:List Value} {zs:List Str} (h:Txts vs zs):Vals (zs.map V.str) vs:=by
 induction h with
 | nil=>exact .nil
 | cons h ih=>exact .cons ⟨_,rfl⟩ ih
inductive SortedT (X:Cx) (xs:List V) (H:Hp) (Q:VK):Prop
 | mk (a:Addr) (ss:List Str) (h0_:xs=[.ref a]) (h1_:H a=some (.ext (SetIs X.prog X.w a ss))) (h3_:(unl ss []).length<64) (h4_:∀ (p:Addr) (ss':List Str),H p=none→ss'.Perm (unl ss [])→sortedS ss'=true→Q (.ref p) (upd H p (.lst (ss'.map V.str))))
theorem call_sortedT (hc:X.calm=true):CallR X (.builtin "sorted") (SortedT X):=by
 intro pins s σ H xs us Q I r h
 obtain ⟨a,ss,rfl,hs,h64,q⟩:=h
 obtain ⟨u,rfl,rx⟩:=vals1 r
 cases rx
 obtain ⟨T,_⟩:=(show ObjOk X.prog X.w H s.heap a (.ext (SetIs X.prog X.w a ss)) from I.hok a _ hs)
 have hul:=unl_len ss []
 rw [List.length_nil,Nat.zero_add] at hul
 refine call_function_entry kind_sorted plain_sorted entry_sorted (args_sorted1 _) ?_
 unfold Builtin.«sorted»
 refine wpAny_bind (m:=checkCount "sorted" 1 1 _) (wpAny_pure ?_)
 refine wpAny_bind (collect_sset (A:=X.A.in1) (ss:=ss) (I.ok.hd hc) T (by rw [sizeLine_eq]; omega) fun h' tk d acc zs hk tx pz=>?_)
 have hal:acc.length=(unl ss []).length:=by rw [← tx.length,pz.length_eq]
 have rv:Vals (zs.map V.str) acc:=txts_vals tx
 have hS:=strsAre_of rv
 refine wpAny_bind (wpAny_newList ?_ (by rw [hal,sizeLine_eq]; omega))
 have hoL:(h'.push (seqObj "list" acc.toArray 0)).get? h'.objs.size=some (seqObj "list" acc.toArray 0):=Heap.get?_push_size _ rfl
 refine wpAny_bind (wpAny_holding (wpAny_call_entry slot_list_sort ⟨_,hoL,rfl⟩ entry_list_sort (list_sort_treeK strKind_oneLt hoL hS.keysOf (fun v₁ v₂ rest e=>keyKind_strs (by rw [← e]; exact hS)) (by rw [hal]; omega) fun st' a1 a2=>⟨_,rfl,?_⟩) (args_list_sort _)))
 obtain ⟨ss',b1,b2,b3⟩:=sorted_out_str hS a1 a2
 refine wpAny_pure ⟨_,rfl,?_⟩
 have I1:Inv X pins σ H { s with heap:=h',toks:=tk,drawn:=d }:=(I.kept (t':=tk) hk).drew d
 have hn:H h'.objs.size=none:=I1.hok.fresh (Nat.le_refl _)
 obtain ⟨e,he⟩:=sortedHeap_at (vs:=acc) (out:=(arrOf st').map (·.2)) hoL
 refine ⟨.ref h'.objs.size,_,I1.laid (t':=tk) (fun b o z=>?_) (Nat.le_refl _) ?_,rfl,q _ ss' hn (b2.trans pz) b3⟩
 ·have hb:b<h'.objs.size:=Heap.lt_size z
  rw [sortedHeap_old (Nat.ne_of_lt hb) (by rw [size_push']; exact Nat.lt_succ_of_lt hb)]
  exact Heap.get?_push_of_some _ z
 ·exact ⟨by rw [List.length_map,b2.length_eq,pz.length_eq,sizeLine_eq]; omega,_,e,vals_strs b1,he⟩
end
end L2
namespace L2
open PySem PySem.Spec PySem.Calls PyProof.Rows PySem.W
section
variable {prog:Program} {w:World} {M:Model} {A:Around} {E:Value→Shared→Prop} {s:Shared} {K:Frag} {x C:Addr} {ox:Obj} {od:Option Obj}
theorem bound_B {name:Str} {id:String} {args:List Value} {Q:Option Value→Shared→Prop} (X:K.In s.heap) (I:PySem.W.InstAt s.heap x ox C od) (hs:findIn K (.ref C) name=some (some (.builtin id)))
  (hb:∀ self,bindSpecial (.builtin id) self=pure (.builtin id,[self])) (h:wpAny M A (call (.builtin id) (.ref x::args)) (fun v=>Q (some v)) E s):wpAny M A (callSpecialIfBound? (.ref x) name args) Q E s:=by
 simp only [callSpecialIfBound?,bindSpecialIfBound?]
 refine wpAny_holding (wpAny_bind (wpAny_bind (wpAny_bind (I.type.here ((looks_findIn X hs).here ?_)))))
 refine wpAny_bind (wpAny_askSetting (wpAny_ite ?_))
 have fin:wpAny M A (call (.builtin id) ([.ref x]++args)>>=fun v=>pure (some v)) Q E s:=wpAny_bind (wpAny_mono h (fun v s' h'=>wpAny_pure h') fun _ _ h'=>h')
 split
 ·exact wpAny_bind ((Looks.of_pure (hb _)).here (wpAny_pure (by exact fin)))
 ·exact wpAny_tryCatch (wpAny_bind ((Looks.of_pure (hb _)).here (wpAny_pure (by exact fin))))
structure NoCmp (K:Frag) (C:Addr):Prop where
 eq:findIn K (.ref C) "__eq__" = some (some (.builtin "object.__eq__"))
 ne:findIn K (.ref C) "__ne__" = some (some (.builtin "object.__ne__"))
 mr:mroIn K C (.type "object")=some true
theorem objNe_same (N:NoCmp K C) (X:K.In s.heap) (I:PySem.W.InstAt s.heap x ox C od) (hu:A.units<cLine) {Q:Fin→Shared→Prop} (hq:Q (.done (.ret (.bool false))) s):wpAny (model prog w) A (Builtin.«object.__ne__» ⟨[.ref x,.ref x],[]⟩) Q E s:=by
 unfold Builtin.«object.__ne__»
 refine wpAny_bind (m:=slotArgs "__ne__" 1 _) (wpAny_pure ?_)
 dsimp only
 refine wpAny_bind (wpAny_cRoomFor hu ?_)
 refine wpAny_bind (bound_B X I N.eq PySem.F.cmp_object.eq.bind (wpAny_call (codeAny_call_builtin PySem.F.cmp_object.eq.plain PySem.F.cmpEntry_eq (check_slot PySem.F.cmpKind_eq PySem.F.cmpSplit_eq (I.type.andThen (looks_mroIn X N.mr)) (PySem.F.cmpArgs_eq _ _) (objEq_entry_same ?_)))))
 exact wpAny_bind (wpAny_truthy_bool (wpAny_pure hq))
theorem ne_same (N:NoCmp K C) (X:K.In s.heap) (I:PySem.W.InstAt s.heap x ox C od) (hu:A.units+1<cLine) {Q:Value→Shared→Prop} (hq:Q (.bool false) s):wpAny (model prog w) A (compareOp .NotEq (.ref x) (.ref x)) Q E s:=by
 have hu0:A.units<cLine:=Nat.lt_of_succ_lt hu
 show wpAny _ _ (richCompare .NotEq (.ref x) (.ref x)) _ _ _
 have one:wpAny (model prog w) A (tryCompare (.ref x) (Str.ofString "__ne__") (.ref x)) (fun r s'=>∃ v,r=some v∧Q v s') E s:=by
  unfold tryCompare
  refine wpAny_bind (bound_B X I N.ne PySem.F.cmp_object.ne.bind (wpAny_call (codeAny_call_builtin PySem.F.cmp_object.ne.plain PySem.F.cmpEntry_ne (check_slot PySem.F.cmpKind_ne PySem.F.cmpSplit_ne (I.type.andThen (looks_mroIn X N.mr)) (PySem.F.cmpArgs_ne _ _) (objNe_same (A:=A.in1) N X I hu ?_)))))
  exact wpAny_pure ⟨_,rfl,hq⟩
 simp only [richCompare,cmpInfo_NotEq,oneThing_ref]
 refine wpAny_holding (wpAny_bind (wpAny_cRoomFor hu0 ?_))
 refine wpAny_bind (I.type.here (wpAny_bind (I.type.here ?_)))
 rw [if_neg (by simp)]
 refine wpAny_bind (wpAny_pure ?_)
 simp only [Bool.false_eq_true,if_false]
 refine wpAny_bind (wpAny_mono one (fun r s' z=>?_) fun _ _ e=>e)
 obtain ⟨v,rfl,hq⟩:=z
 exact wpAny_pure hq
end
section
variable {X:Cx}
inductive rNeOne (K:PySem.W.Frag) (x y:V) (H:Hp) (Q:VK):Prop
 | mk (a C dx:Addr) (fs:List (Str×V)) (h0_:x=.ref a) (h1_:y=.ref a) (h2_:H a=some (.ins C dx fs)) (h3_:NoCmp K C) (h4_:Q (.bl false) H)
theorem op_neOne (hu:X.A.units+1<cLine):OpR X (compareOp .NotEq) (rNeOne X.K):=by
 intro pins s σ H x y v u Q I rx ry h
 obtain ⟨a,C,dx,fs,rfl,rfl,ha,N,q⟩:=h
 cases rx
 cases ry
 obtain ⟨mA,O,_⟩:=ins_get I.hok ha
 obtain ⟨od,J,_⟩:=O.look
 exact ne_same N I.kIn J hu ⟨.bl false,H,I,rfl,q⟩
end
end L2
namespace RW
noncomputable def mixed (c k:Int):Int:=(((c+7919*k)*48271%2147483647)*((c+7919*k)*48271%2147483647+2*k+1))%2147483629
noncomputable def cellAt (ns:List Int) (k:Nat):Int:=match ns[k]? with | some c=>mixed c k | none=>0
end RW
namespace KM
variable {α:Type} [DecidableEq α]
end KM
namespace Ky
open PySem L2 PySem.Spec PyProof.Rows PySem.W
noncomputable abbrev letters:Str:="abcdefghijklmnopqrstuvwxyz"
noncomputable abbrev figures:Str:="0123456789"
theorem letters_eq:letters.cps.toList=List.range' 97 26:=by decide +kernel
theorem figures_eq:figures.cps.toList=List.range' 48 10:=by decide +kernel
noncomputable def isLetter (c:Nat):Bool:=decide (97≤c∧c<123)
noncomputable def isFig (c:Nat):Bool:=decide (48≤c∧c<58)
noncomputable def isSign (c:Nat):Bool:=isLetter c||isFig c
theorem mem_letters (c:Nat):decide (c∈letters.cps.toList)=isLetter c:=by
 rw [letters_eq]
 unfold isLetter
 rw [decide_eq_decide,List.mem_range'_1]
theorem mem_figures (c:Nat):decide (c∈figures.cps.toList)=isFig c:=by
 rw [figures_eq]
 unfold isFig
 rw [decide_eq_decide,List.mem_range'_1]
theorem cat_toList (x y:Str):(x++y).cps.toList=x.cps.toList++y.cps.toList:=by
 show (x.cps++y.cps).toList=_
 simp
theorem len_cat (x y:Str):(x++y).length=x.length+y.length:=by
 have ln:∀ z:Str,z.cps.toList.length=z.length:=fun z=>by simp [Str.length]
 rw [← ln,cat_toList,List.length_append,ln,ln]
theorem mem_signs (c:Nat):decide (c∈(letters++figures).cps.toList)=isSign c:=by
 unfold isSign
 rw [← mem_letters,← mem_figures,cat_toList,← Bool.decide_or,decide_eq_decide,List.mem_append]
noncomputable def isNameL (cs:List Nat):Bool:=decide (1≤cs.length∧cs.length≤8)&&(match cs with | []=>false | c::_=>isLetter c)&&cs.all isSign
noncomputable def isNameS (z:Str):Bool:=isNameL z.cps.toList
theorem name_len {z:Str} (h:isNameS z=true):z.length≤8:=by
 unfold isNameS isNameL at h
 rw [Bool.and_eq_true,Bool.and_eq_true] at h
 have:=of_decide_eq_true h.1.1
 have hl:z.cps.toList.length=z.length:=by simp [Str.length]
 omega
inductive Why | noName | noDeed | twice | tooMany
 deriving DecidableEq
noncomputable def scan:List Str→List Str→Option Why
 | _,[]=>none
 | seen,n::r=>if isNameS n=true then (if n∈seen then some .twice else scan (seen++[n]) r) else some .noName
noncomputable def refused (ss:List Str):Option Why:=if 12<ss.length then some .tooMany else scan [] ss
noncomputable def deedsErr (ss fs:List Str):Option Why:=match refused ss with
 | some k=>some k
 | none=>if fs.all (fun f=>isNameS f&&decide (f∈ss))=true then none else some .noDeed
noncomputable def wts:List Str→Int→List (Key×V)→List (Key×V)
 | [],_,k=>k
 | s::r,w,k=>wts r (w*2) (putK k (Sum.inr s) (.int w))
noncomputable def mks:List Str→List (Key×V)→List (Key×V)
 | [],k=>k
 | s::r,k=>mks r (putK k (Sum.inr s) (.bl true))
inductive spMixed (vs:List V) (H:Hp) (Q:VK) (x3_:XK):Prop
 | mk (c k:Int) (h0_:vs=[.int c,.int k]) (h1_:Q (.int (RW.mixed c k)) H)
inductive spCell (K:PySem.W.Frag) (vs:List V) (H:Hp) (Q:VK) (x3_:XK):Prop
 | mk (a:Addr) (ns:List Int) (k:Nat) (h0_:vs=[.ref a,.int k]) (h1_:SqL K H a (ns.map V.int)) (h2_:Q (.int (RW.cellAt ns k)) H)
inductive spName (K:PySem.W.Frag) (vs:List V) (H:Hp) (Q:VK) (x3_:XK):Prop
 | mk (x:_) (h0_:vs=[x]) (h1_:((∃ z,x=.str z∧z.length≤sizeLine∧∀ H',Same H H'→Q (.bl (isNameS z)) H')∨∃ t,TyOf K H x t∧PySem.W.kitOne K t (.type "str")=some false∧Q (.bl false) H))
noncomputable def ways (cl:Why→Addr) (r:Option Why) (q:Prop) (E:XK) (H:Hp):Prop:=match r with
 | none=>q
 | some k=>E (.ref (cl k)) none H
noncomputable def Short (ss:List Str):Prop:=∀ z∈ss,z.length≤1000
inductive spRefuse (K:PySem.W.Frag) (cl:Why→Addr) (vs:List V) (H:Hp) (Q:VK) (E:XK):Prop
 | mk (a:Addr) (ss:List Str) (h0_:vs=[.ref a]) (h1_:SqL K H a (ss.map V.str)) (h2_:Short ss) (h3_:∀ H',Same H H'→ways cl (refused ss) (Q .non H') E H')
inductive spWeights (K:PySem.W.Frag) (vs:List V) (H:Hp) (Q:VK) (x3_:XK):Prop
 | mk (a:Addr) (ss:List Str) (h0_:vs=[.ref a]) (h1_:SqL K H a (ss.map V.str)) (h2_:ss.length<64) (h3_:∀ (d:Addr) (ss':List Str) H',Same H H'→H d=none→ss'.Perm ss→sortedS ss'=true→H' d=some (.dK (wts ss' 1 []))→Q (.ref d) H')
inductive spMarks (K:PySem.W.Frag) (vs:List V) (H:Hp) (Q:VK) (x3_:XK):Prop
 | mk (a:Addr) (ss:List Str) (h0_:vs=[.ref a]) (h1_:SqL K H a (ss.map V.str)) (h2_:ss.length≤1000) (h3_:∀ (d:Addr) H',Same H H'→H d=none→H' d=some (.dK (mks ss []))→Q (.ref d) H')
noncomputable abbrev mths:List Str:=["has","require","names","free","is_free","bits","names_of"]
inductive WAt (C:Addr) (H:Hp) (p:Addr) (kvs:List (Key×V)):Prop
 | mk (dx:_) (fs:_) (dw:_) (o:_) (h0_:H p=some (.ins C dx fs)) (h1_:(∀ m∈mths,fs.lookup m=none)) (h2_:fs.lookup ("weights" : Str)=some (.ref dw)) (h3_:H dw=some (.frz o (.dK kvs)))
noncomputable def Thing (x:V):Prop:=(∃ z:Str,x=.str z∧z.length≤1000)∨x=.non∨x=.int 5
noncomputable def goodV (kvs:List (Key×V)):V→Bool
 | .str z=>isNameS z&&(valV kvs (Sum.inr z)).isSome
 | _=>false
inductive spHas (K:PySem.W.Frag) (C:Addr) (vs:List V) (H:Hp) (Q:VK) (x3_:XK):Prop
 | mk (p:Addr) (x:V) (kvs:List (Key×V)) (h0_:vs=[.ref p,x]) (h1_:Thing x) (h2_:WAt C H p kvs) (h3_:∀ H',Same H H'→Q (.bl (goodV kvs x)) H')
inductive spRequire (K:PySem.W.Frag) (C:Addr) (cl:Why→Addr) (vs:List V) (H:Hp) (Q:VK) (E:XK):Prop
 | mk (p b:Addr) (xs:List V) (kvs:List (Key×V)) (h0_:vs=[.ref p,.ref b]) (h1_:SqL K H b xs) (h2_:(∀ x∈xs,Thing x)) (h3_:WAt C H p kvs) (h4_:∀ H',Same H H'→ways cl (if xs.all (goodV kvs)=true then none else some .noDeed) (Q .non H') E H')
noncomputable def SameBut (x:Addr) (H H':Hp):Prop:=∀ b o,b≠x→H b=some o→H' b=some o
inductive spInit (K:PySem.W.Frag) (C:Addr) (cl:Why→Addr) (vs:List V) (H:Hp) (Q:VK) (E:XK):Prop
 | mk (x a:Addr) (y:V) (dx:Addr) (ss fs:List Str) (h0_:vs=[.ref x,.ref a,y]) (h1_:H x=some (.ins C dx [])) (h2_:SqL K H a (ss.map V.str)) (h3_:((y=.non∧fs=[])∨∃ b,y=.ref b∧SqL K H b (fs.map V.str))) (h4_:Short ss) (h5_:Short fs) (h6_:fs.length≤1000) (h7_:∀ H',SameBut x H H'→ways cl (deedsErr ss fs) (∀ (dw df:Addr) (o:Obj) (ss':List Str),H' x=some (.ins C dx [("weights",.ref dw),("free_marks",.ref df)])→H' dw=some (.frz o (.dK (wts ss' 1 [])))→H' df=some (.dK (mks fs []))→ss'.Perm ss→sortedS ss'=true→Q .non H') E H')
section
variable {P:Program} {w:World} {K:PySem.W.Frag} {mg:Str→Option Value} {base:Heap}
theorem okE {x qual:Str} {st:Stmt} {f:Addr} {fd:FuncData} {N ps:List Str} {k:Nat} {sp:Sp} (F:Fun K x qual st f fd) (S:FnScope N ps (defScope st)) (len:∀ vs H Q E,sp vs H Q E→vs.length=ps.length)
  (hbody:∀ (cdv:Value) (A:Around) (outer:List Env) (s:Shared) (H:Hp) (vs:List V) (Q:VK) (E:XK),Room k (A.deeper (envOfC qual (defScope st) s.heap.objs.size f cdv))→sp vs H Q E →
   (cxOf (CXE P w) P w K mg base N qual (defScope st) f cdv A outer s H E).Body E →
   ∃ t,PSs (cxOf (CXE P w) P w K mg base N qual (defScope st) f cdv A outer s H E) (defBody st) t∧t { nx:=fun _ H'=>Q .non H',rt:=Q } (start N vs) H):FnOk P w K mg base (CXE P w) (k+1) f fd ps sp:=by
 obtain ⟨oc,od,kV,doc,pm,an,cdv,ct,osl,rfl,lk,hcd⟩:=F.ex
 exact fn_of lk hcd S len fun A outer s H vs Q E hr hsp=>hbody cdv A outer s H vs Q E hr hsp body_of
structure FunD (K:PySem.W.Frag) (x qual:Str) (st:Stmt) (f:Addr) (fd:FuncData):Prop where
 ex:∃ (oc:Value) (od:Option Addr) (dV kV doc pm:Value) (an:Option Addr) (cdv ct:Value) (osl:Array (Option Value)),
  fd=PySem.W.fnOf x qual (defArgs st) (defBody st) (defScope st) dV kV doc pm an cdv ct∧K.lookup f=some ⟨oc,od,.func fd,osl⟩∧PySem.W.codeIn K cdv qual=true
 kp:PySem.W.keepIn K (.ref f)=true
theorem okED {x qual:Str} {st:Stmt} {f:Addr} {fd:FuncData} {N ps:List Str} {k:Nat} {sp:Sp} (F:FunD K x qual st f fd) (S:FnScope N ps (defScope st)) (len:∀ vs H Q E,sp vs H Q E→vs.length=ps.length)
  (hbody:∀ (cdv:Value) (A:Around) (outer:List Env) (s:Shared) (H:Hp) (vs:List V) (Q:VK) (E:XK),Room k (A.deeper (envOfC qual (defScope st) s.heap.objs.size f cdv))→sp vs H Q E →
   (cxOf (CXE P w) P w K mg base N qual (defScope st) f cdv A outer s H E).Body E →
   ∃ t,PSs (cxOf (CXE P w) P w K mg base N qual (defScope st) f cdv A outer s H E) (defBody st) t∧t { nx:=fun _ H'=>Q .non H',rt:=Q } (start N vs) H):FnOk P w K mg base (CXE P w) (k+1) f fd ps sp:=by
 obtain ⟨oc,od,dV,kV,doc,pm,an,cdv,ct,osl,rfl,lk,hcd⟩:=F.ex
 exact fn_of lk hcd S len fun A outer s H vs Q E hr hsp=>hbody cdv A outer s H vs Q E hr hsp body_of
end
end Ky
namespace Ky
open PySem L2 PySem.Spec PyProof.Rows PySem.W
noncomputable abbrev Dr:=Str×Str×Str
structure DoorsAt (H:Hp) (d:Addr) (ds:List Dr):Prop where
 ex:∃ ts:List Addr,H d=some (.lst (ts.map V.ref))∧ts.length=ds.length∧∀ (i:Nat) (t:Addr) (x:Dr),ts[i]?=some t→ds[i]?=some x→H t=some (.tup [.str x.1,.str x.2.1,.str x.2.2])
theorem DoorsAt.same {H H':Hp} {d:Addr} {ds:List Dr} (D:DoorsAt H d ds) (sm:Same H H'):DoorsAt H' d ds:=by
 obtain ⟨ts,h1,h2,h3⟩:=D.ex
 exact ⟨ts,sm _ _ h1,h2,fun i t x a b=>sm _ _ (h3 i t x a b)⟩
theorem smu {H:Hp} {p:Addr} {o:HO} (h:H p=none):Same H (upd H p o):=fun b u e=>by
 rw [upd_ne (ne_of_none e h)]
 exact e
theorem small2 {n:Nat} (h:n≤16000000):n≤sizeLine:=Nat.le_trans h (by decide)
noncomputable def doorRooms (ds:List Dr):List Str:=ds.flatMap fun x=>[x.1,x.2.2]
noncomputable def roomsOf (b:Str) (es:List Str) (ds:List Dr):List Str:=b::es++doorRooms ds
theorem doorRooms_take {ds:List Dr} {i:Nat} {x:Dr} (h:ds[i]?=some x):doorRooms (ds.take (i+1))=doorRooms (ds.take i)++[x.1]++[x.2.2]:=by
 unfold doorRooms
 rw [List.take_succ,h]
 simp
theorem doorRooms_len (ds:List Dr):(doorRooms ds).length=2*ds.length:=by
 induction ds with
 | nil=>rfl
 | cons x r ih => 
  have e:doorRooms (x::r)=[x.1,x.2.2]++doorRooms r:=rfl
  have h2:([x.1,x.2.2]:List Str).length=2:=rfl
  rw [e,List.length_append,ih,h2,List.length_cons]
  omega
inductive spNamed (vs:List V) (H:Hp) (Q:VK) (E:XK):Prop
 | mk (b:Str) (e d:Addr) (es:List Str) (ds:List Dr) (h0_:vs=[.str b,.ref e,.ref d]) (h1_:H e=some (.lst (es.map V.str))) (h2_:DoorsAt H d ds) (h3_:es.length≤1000) (h4_:ds.length≤1000)
  (h5_:∀ (p:Addr) H',Same H H'→H p=none→H' p=some (.lst ((roomsOf b es ds).map V.str))→Q (.ref p) H')
noncomputable def badRooms (ss:List Str):Option Why:=if ss.all isNameS=true then none else some .noName
inductive spRefRooms (K:PySem.W.Frag) (cl:Why→Addr) (vs:List V) (H:Hp) (Q:VK) (E:XK):Prop
 | mk (a:Addr) (ss:List Str) (h0_:vs=[.ref a]) (h1_:SqL K H a (ss.map V.str)) (h2_:Short ss) (h3_:∀ H',Same H H'→ways cl (badRooms ss) (Q .non H') E H')
theorem badRooms_drop {ss:List Str} {i:Nat} (h:(ss.take i).all isNameS=true):badRooms ss=badRooms (ss.drop i):=by
 unfold badRooms
 have e:ss.all isNameS=(ss.drop i).all isNameS:=by
  conv=>lhs; rw [← List.take_append_drop i ss]
  rw [List.all_append,h,Bool.true_and]
 rw [e]
noncomputable def inn (ds:List Dr) (z:Str):List (Key×V):=ds.filterMap fun x=>if x.1=z then some (Sum.inr x.2.1,V.str x.2.2) else none
theorem inn_len (ds:List Dr) (z:Str):(inn ds z).length≤ds.length:=List.length_filterMap_le ..
theorem inn_take {ds:List Dr} {i:Nat} {x:Dr} (h:ds[i]?=some x) (z:Str):inn (ds.take (i+1)) z=inn (ds.take i) z++(if x.1=z then [(Sum.inr x.2.1,V.str x.2.2)] else []):=by
 unfold inn
 rw [List.take_succ,h,List.filterMap_append]
 by_cases e:x.1=z
 ·simp [e]
 ·simp [e]
theorem valV_none {kvs:List (Key×V)} {k:Key} (h:∀ p∈kvs,p.1≠k):valV kvs k=none:=by
 unfold valV
 rw [List.find?_eq_none.mpr (fun p hp=>by simpa using h p hp)]
 rfl
theorem inn_none {ds:List Dr} {z y:Str} (h:∀ x∈ds,x.1=z→x.2.1≠y):valV (inn ds z) (Sum.inr y)=none:=by
 refine valV_none fun p hp=>?_
 obtain ⟨x,hx,e⟩:=List.mem_filterMap.mp hp
 by_cases ez:x.1=z
 ·rw [if_pos ez] at e
  cases e
  exact fun q=>h x hx ez (Sum.inr.inj q)
 ·rw [if_neg ez] at e
  cases e
noncomputable def Apart (ds:List Dr):Prop:=(ds.map fun x=>(x.1,x.2.1)).Nodup
theorem Apart.at {ds:List Dr} (h:Apart ds) {i:Nat} {x:Dr} (hx:ds[i]?=some x):∀ y∈ds.take i,y.1=x.1→y.2.1≠x.2.1:=by
 intro y hy e1 e2
 obtain ⟨j,hj,ej⟩:=List.mem_iff_getElem.mp hy
 rw [List.length_take] at hj
 have hi:i<ds.length:=(List.getElem?_eq_some_iff.mp hx).1
 have hji:j<i:=by omega
 have ey:ds[j]?=some y:=by
  rw [List.getElem_take] at ej
  rw [List.getElem?_eq_getElem (by omega),ej]
 have:=(List.getElem?_inj (i:=j) (j:=i) (by rw [List.length_map]; omega) h).mp (by rw [List.getElem?_map,List.getElem?_map,ey,hx]; show some (y.1,y.2.1)=some (x.1,x.2.1); rw [e1,e2])
 omega
theorem any_keys (kvs:List (Key×V)) (k:Key):(kvs.any fun kv=>decide (kv.1=k))=(kvs.map (·.1)).any fun j=>decide (j=k):=by
 rw [List.any_map]
 rfl
theorem putK_keys {kvs kvs':List (Key×V)} (k:Key) (v v':V) (h:kvs.map (·.1)=kvs'.map (·.1)):(putK kvs k v).map (·.1)=(putK kvs' k v').map (·.1):=by
 have m:∀ (l:List (Key×V)) (u:V),(l.map fun kv=>if kv.1=k then (kv.1,u) else kv).map (·.1)=l.map (·.1):=fun l u=>by
  rw [List.map_map]
  refine List.map_congr_left fun p _=>?_
  show (if p.1=k then (p.1,u) else p).1=p.1
  split <;> rfl
 unfold putK
 rw [any_keys,any_keys,h]
 by_cases q:((kvs'.map (·.1)).any fun j=>decide (j=k))=true
 ·rw [if_pos q,if_pos q,m,m,h]
 ·rw [if_neg q,if_neg q,List.map_append,List.map_append,h]
  rfl
theorem mks_snoc:∀ (a:List Str) (z:Str) (k:List (Key×V)),mks (a++[z]) k=putK (mks a k) (Sum.inr z) (.bl true)
 | [],z,k=>rfl
 | s::r,z,k=>mks_snoc r z _
structure LeadsAt (H:Hp) (l:Addr) (rs:List Str) (ds:List Dr) (kvs:List (Key×V)) (g:Str→Addr):Prop where
 dk:H l=some (.dK kvs)
 keys:kvs.map (·.1)=(mks rs []).map (·.1)
 val:∀ z∈rs,valV kvs (Sum.inr z)=some (.ref (g z))
 dd:∀ z∈rs,H (g z)=some (.dK (inn ds z))
 inj:∀ z∈rs,∀ y∈rs,g z=g y→z=y
 ne:∀ z∈rs,g z≠l
theorem LeadsAt.same {H H':Hp} {l:Addr} {rs:List Str} {ds:List Dr} {kvs:List (Key×V)} {g:Str→Addr} (L:LeadsAt H l rs ds kvs g) (sm:Same H H'):LeadsAt H' l rs ds kvs g:=
 ⟨sm _ _ L.dk,L.keys,L.val,fun z hz=>sm _ _ (L.dd z hz),L.inj,L.ne⟩
theorem LeadsAt.more {H:Hp} {l d:Addr} {rs:List Str} {kvs:List (Key×V)} {g:Str→Addr} (L:LeadsAt H l rs [] kvs g) (hd:H d=none) (z:Str) :
  LeadsAt (upd (upd H d (.dK [])) l (.dK (putK kvs (Sum.inr z) (.ref d)))) l (rs++[z]) [] (putK kvs (Sum.inr z) (.ref d)) (fun y=>if y=z then d else g y):=by
 have dl:d≠l:=fun e=>by rw [e,L.dk] at hd; cases hd
 have gd:∀ y∈rs,g y≠d:=fun y hy e=>by have:=L.dd y hy; rw [e,hd] at this; cases this
 have mem:∀ y∈rs++[z],y≠z→y∈rs:=fun y hy n=>(List.mem_append.mp hy).resolve_right fun q=>n (List.mem_singleton.mp q)
 refine ⟨upd_same,?_,fun y hy=>?_,fun y hy=>?_,fun y hy x hx e=>?_,fun y hy=>?_⟩
 ·rw [mks_snoc]; exact putK_keys _ _ _ L.keys
 ·rw [valV_put]
  by_cases e:y=z
  ·subst e
   rw [if_pos rfl,if_pos rfl]
  ·rw [if_neg (fun q=>e (Sum.inr.inj q)),if_neg e]
   exact L.val y (mem y hy e)
 ·by_cases e:y=z
  ·subst e
   rw [if_pos rfl,upd_ne dl,upd_same]
   rfl
  ·rw [if_neg e,upd_ne (L.ne y (mem y hy e)),upd_ne (gd y (mem y hy e))]
   exact L.dd y (mem y hy e)
 ·by_cases e1:y=z
  ·by_cases e2:x=z
   ·rw [e1,e2]
   ·rw [if_pos e1,if_neg e2] at e
    exact absurd e.symm (gd x (mem x hx e2))
  ·by_cases e2:x=z
   ·rw [if_neg e1,if_pos e2] at e
    exact absurd e (gd y (mem y hy e1))
   ·rw [if_neg e1,if_neg e2] at e
    exact L.inj y (mem y hy e1) x (mem x hx e2) e
 ·by_cases e:y=z
  ·rw [if_pos e]; exact dl
  ·rw [if_neg e]; exact L.ne y (mem y hy e)
theorem LeadsAt.door {H:Hp} {l:Addr} {rs:List Str} {ds:List Dr} {kvs:List (Key×V)} {g:Str→Addr} {i:Nat} {x:Dr} (L:LeadsAt H l rs (ds.take i) kvs g) (hx:ds[i]?=some x) (hr:x.1∈rs) (ha:Apart ds) :
  LeadsAt (upd H (g x.1) (.dK (putK (inn (ds.take i) x.1) (Sum.inr x.2.1) (.str x.2.2)))) l rs (ds.take (i+1)) kvs g:=by
 refine ⟨?_,L.keys,L.val,fun z hz=>?_,L.inj,L.ne⟩
 ·rw [upd_ne (Ne.symm (L.ne _ hr))]; exact L.dk
 ·by_cases e:z=x.1
  ·subst e
   rw [upd_same,inn_take hx,if_pos rfl,putK_new _ (inn_none (ha.at hx))]
  ·rw [upd_ne (fun q=>e (L.inj z hz _ hr q)),inn_take hx,if_neg (fun q=>e q.symm),List.append_nil]
   exact L.dd z hz
inductive spLeads (K:PySem.W.Frag) (vs:List V) (H:Hp) (Q:VK) (E:XK):Prop
 | mk (a d:Addr) (rs:List Str) (ds:List Dr) (h0_:vs=[.ref a,.ref d]) (h1_:SqL K H a (rs.map V.str)) (h2_:DoorsAt H d ds) (h3_:rs.length≤1000) (h4_:ds.length≤1000) (h5_:∀ x∈ds,x.1∈rs) (h6_:Apart ds)
  (h7_:∀ (l:Addr) (kvs:List (Key×V)) (g:Str→Addr) H',Same H H'→H l=none→(∀ z∈rs,H (g z)=none)→LeadsAt H' l rs ds kvs g→Q (.ref l) H')
theorem ps_dead {X:Cx} {st:Stmt}:PS X st (fun _ _ _=>False):=fun _ _ _ _ _ _ h=>h.elim
noncomputable def knownOf (ds:List Dr) (ms:List Str):List Str:=ds.map (·.2.1)++ms
noncomputable abbrev mMths:List Str:=["deeds","begin","rooms","ends","knows","require_room","at","to","is_end","goes","behind"]
noncomputable abbrev mFlds (l dd e k:Addr) (b:Str):List (Str×V):=[("leads",.ref l),("deeds_made_of",.ref dd),("first_room",.str b),("end_marks",.ref e),("known_marks",.ref k)]
theorem mFlds_mth (l dd e k:Addr) (b:Str):∀ m∈mMths,(mFlds l dd e k b).lookup m=none:=by
 have h:∀ m∈mMths,(m==("leads" : Str))=false∧(m==("deeds_made_of" : Str))=false∧(m==("first_room" : Str))=false∧(m==("end_marks" : Str))=false∧(m==("known_marks" : Str))=false:=by decide +kernel
 intro m hm
 obtain ⟨h1,h2,h3,h4,h5⟩:=h m hm
 simp only [List.lookup,h1,h2,h3,h4,h5]
structure MAt (CM:Addr) (H:Hp) (x dx l dd e k:Addr) (b:Str) (es kn:List Str) (ds:List Dr) (kvs:List (Key×V)) (g:Str→Addr):Prop where
 ins:H x=some (.ins CM dx (mFlds l dd e k b))
 lead:LeadsAt H l (roomsOf b es ds) ds kvs g
 ends:H e=some (.dK (mks es []))
 know:H k=some (.dK (mks kn []))
theorem MAt.same {CM:Addr} {H H':Hp} {x dx l dd e k:Addr} {b:Str} {es kn:List Str} {ds:List Dr} {kvs:List (Key×V)} {g:Str→Addr} (M:MAt CM H x dx l dd e k b es kn ds kvs g) (sm:Same H H'):MAt CM H' x dx l dd e k b es kn ds kvs g:=
 ⟨sm _ _ M.ins,M.lead.same sm,sm _ _ M.ends,sm _ _ M.know⟩
structure MCls (K:PySem.W.Frag) (CM:Addr):Prop where
 cl:Cls K CM
 nl:NoAttr K CM "leads"
 nd:NoAttr K CM "deeds_made_of"
 nf:NoAttr K CM "first_room"
 ne:NoAttr K CM "end_marks"
 nk:NoAttr K CM "known_marks"
inductive spMInit (K:PySem.W.Frag) (C CM:Addr) (vs:List V) (H:Hp) (Q:VK) (E:XK):Prop
 | mk (x dd e d dx:Addr) (b:Str) (y:V) (es ms:List Str) (ds:List Dr) (wk:List (Key×V)) (h0_:vs=[.ref x,.ref dd,.str b,.ref e,.ref d,y]) (h1_:H x=some (.ins CM dx [])) (h2_:WAt C H dd wk)
  (h3_:H e=some (.lst (es.map V.str))) (h4_:DoorsAt H d ds) (h5_:(y=.non∧ms=[])∨∃ m,y=.ref m∧H m=some (.lst (ms.map V.str)))
  (h6_:es.length≤200∧ds.length≤200∧ms.length≤200) (h7_:(roomsOf b es ds).all isNameS=true) (h8_:((knownOf ds ms).map V.str).all (goodV wk)=true) (h9_:Short (knownOf ds ms)) (h10_:Apart ds) (h11_:(mks (roomsOf b es ds) []).length≤60)
  (h12_:∀ (l e' k:Addr) (kvs:List (Key×V)) (g:Str→Addr) H',SameBut x H H'→MAt CM H' x dx l dd e' k b es (knownOf ds ms) ds kvs g→Q .non H')
theorem short_of_names {ss:List Str} (h:ss.all isNameS=true):Short ss:=fun z hz=>Nat.le_trans (name_len (List.all_eq_true.mp h z hz)) (by decide)
theorem door_mem {b:Str} {es:List Str} {ds:List Dr}:∀ x∈ds,x.1∈roomsOf b es ds:=fun x hx=>List.mem_append_right _ (List.mem_flatMap.mpr ⟨x,hx,by simp⟩)
theorem roomsOf_len (b:Str) (es:List Str) (ds:List Dr):(roomsOf b es ds).length=1+es.length+2*ds.length:=by
 unfold roomsOf
 rw [List.length_append,doorRooms_len,List.length_cons]
 omega
inductive MM (CM:Addr) (H:Hp) (x dd:Addr) (b:Str) (es kn:List Str) (ds:List Dr):Prop
 | mk (dx l e k:Addr) (kvs:List (Key×V)) (g:Str→Addr) (m:MAt CM H x dx l dd e k b es kn ds kvs g)
theorem MM.same {CM:Addr} {H H':Hp} {x dd:Addr} {b:Str} {es kn:List Str} {ds:List Dr} (M:MM CM H x dd b es kn ds) (sm:Same H H'):MM CM H' x dd b es kn ds:=by
 obtain ⟨dx,l,e,k,kvs,g,m⟩:=M
 exact ⟨dx,l,e,k,kvs,g,m.same sm⟩
noncomputable def deedsAt (ds:List Dr) (z:Str):List Str:=ds.filterMap fun x=>if x.1=z then some x.2.1 else none
noncomputable def doorTo (ds:List Dr) (z y:Str):Option Str:=(ds.find? fun x=>decide (x.1=z)&&decide (x.2.1=y)).map (·.2.2)
theorem inn_pos {x:Dr} {r:List Dr} {z:Str} (e:x.1=z):inn (x::r) z=(Sum.inr x.2.1,V.str x.2.2)::inn r z:=by simp [inn,e]
theorem inn_neg {x:Dr} {r:List Dr} {z:Str} (e:¬ x.1=z):inn (x::r) z=inn r z:=by simp [inn,e]
theorem da_pos {x:Dr} {r:List Dr} {z:Str} (e:x.1=z):deedsAt (x::r) z=x.2.1::deedsAt r z:=by simp [deedsAt,e]
theorem da_neg {x:Dr} {r:List Dr} {z:Str} (e:¬ x.1=z):deedsAt (x::r) z=deedsAt r z:=by simp [deedsAt,e]
theorem inn_keys (ds:List Dr) (z:Str):(inn ds z).map (fun kv=>kV kv.1)=(deedsAt ds z).map V.str:=by
 induction ds with
 | nil=>rfl
 | cons x r ih=>
  by_cases e:x.1=z
  ·rw [inn_pos e,da_pos e,List.map_cons,List.map_cons,ih]
   rfl
  ·rw [inn_neg e,da_neg e,ih]
theorem inn_val (ds:List Dr) (z y:Str):valV (inn ds z) (Sum.inr y)=(doorTo ds z y).map V.str:=by
 induction ds with
 | nil=>rfl
 | cons x r ih=>
  unfold doorTo at ih ⊢
  rw [List.find?_cons]
  by_cases e:x.1=z
  ·rw [inn_pos e]
   by_cases e2:x.2.1=y
   ·rw [valV_pos (by show Sum.inr x.2.1=_; rw [e2]),decide_eq_true e,decide_eq_true e2]
    rfl
   ·have:valV ((Sum.inr x.2.1,V.str x.2.2)::inn r z) (Sum.inr y)=valV (inn r z) (Sum.inr y):=by
     unfold valV
     rw [List.find?_cons,decide_eq_false (fun q=>e2 (Sum.inr.inj q))]
    rw [this,ih,decide_eq_true e,decide_eq_false e2]
    rfl
  ·rw [inn_neg e,decide_eq_false e,Bool.false_and,ih]
theorem deedsAt_mem {ds:List Dr} {z y:Str}:y∈deedsAt ds z↔∃ x∈ds,x.1=z∧x.2.1=y:=by
 unfold deedsAt
 rw [List.mem_filterMap]
 constructor
 ·rintro ⟨x,hx,e⟩
  by_cases q:x.1=z
  ·rw [if_pos q] at e
   exact ⟨x,hx,q,Option.some.inj e⟩
  ·rw [if_neg q] at e
   cases e
 ·rintro ⟨x,hx,q,e⟩
  exact ⟨x,hx,by rw [if_pos q,e]⟩
theorem deedsAt_nodup {ds:List Dr} (h:Apart ds) (z:Str):(deedsAt ds z).Nodup:=by
 induction ds with
 | nil=>exact .nil
 | cons x r ih=>
  have hc:=List.nodup_cons.mp (show ((x.1,x.2.1)::r.map fun x=>(x.1,x.2.1)).Nodup from h)
  have ih':=ih hc.2
  by_cases e:x.1=z
  ·rw [da_pos e]
   refine List.nodup_cons.mpr ⟨fun q=>hc.1 ?_,ih'⟩
   obtain ⟨y,hy,e1,e2⟩:=deedsAt_mem.mp q
   exact List.mem_map.mpr ⟨y,hy,by rw [e1,e2,e]⟩
  ·rw [da_neg e]
   exact ih'
inductive spMBegin (CM:Addr) (vs:List V) (H:Hp) (Q:VK) (E:XK):Prop
 | mk (x dd:Addr) (b:Str) (es kn:List Str) (ds:List Dr) (h0_:vs=[.ref x]) (h1_:MM CM H x dd b es kn ds) (h2_:Q (.str b) H)
noncomputable def oV (o:Option Str):V:=(o.map V.str).getD .non
theorem DoorsAt.push {H:Hp} {d t:Addr} {ds:List Dr} (D:DoorsAt H d ds) (ht:H t=none) (x:Dr):∃ xs,H d=some (.lst xs)∧xs.length=ds.length∧DoorsAt (upd (upd H t (.tup [.str x.1,.str x.2.1,.str x.2.2])) d (.lst (xs++[.ref t]))) d (ds++[x]):=by
 obtain ⟨ts,h1,h2,h3⟩:=D.ex
 refine ⟨_,h1,by rw [List.length_map,h2],⟨ts++[t],?_,?_,fun i u y hu hy=>?_⟩⟩
 ·rw [upd_same,List.map_append]; rfl
 ·rw [List.length_append,List.length_append,h2]; rfl
 ·by_cases hi:i<ts.length
  ·rw [List.getElem?_append_left hi] at hu
   rw [List.getElem?_append_left (by rw [← h2]; exact hi)] at hy
   have e:=h3 i u y hu hy
   rw [upd_ne (fun z=>by rw [z,h1] at e; cases e),upd_ne (ne_of_none e ht)]
   exact e
  ·have hl:i=ts.length:=by
    have:=(List.getElem?_eq_some_iff.mp hu).1
    rw [List.length_append] at this
    simp only [List.length_cons,List.length_nil] at this
    omega
   subst hl
   rw [List.getElem?_append_right (Nat.le_refl _),Nat.sub_self] at hu
   rw [h2,List.getElem?_append_right (Nat.le_refl _),Nat.sub_self] at hy
   cases hu
   cases hy
   rw [upd_ne (fun z=>by rw [z,h1] at ht; cases ht),upd_same]
theorem DoorsAt.rev {H:Hp} {d:Addr} {ds:List Dr} (D:DoorsAt H d ds):∃ xs,H d=some (.lst xs)∧xs.length=ds.length∧DoorsAt (upd H d (.lst xs.reverse)) d ds.reverse:=by
 obtain ⟨ts,h1,h2,h3⟩:=D.ex
 refine ⟨_,h1,by rw [List.length_map,h2],⟨ts.reverse,?_,?_,fun i u y hu hy=>?_⟩⟩
 ·rw [upd_same,List.map_reverse]
 ·rw [List.length_reverse,List.length_reverse,h2]
 ·have hi:i<ts.length:=by have:=(List.getElem?_eq_some_iff.mp hu).1; rw [List.length_reverse] at this; exact this
  rw [List.getElem?_reverse hi] at hu
  rw [List.getElem?_reverse (by rw [← h2]; exact hi),← h2] at hy
  have e:=h3 _ u y hu hy
  rw [upd_ne (fun z=>by rw [z,h1] at e; cases e)]
  exact e
noncomputable def pick (p:Nat→Bool) (ss:List Str) (i:Nat):List Str:=(List.range i).filterMap fun k=>if p k=true then ss[k]? else none
theorem pick_succ {p:Nat→Bool} {ss:List Str} {i:Nat} {z:Str} (h:ss[i]?=some z):pick p ss (i+1)=pick p ss i++(if p i=true then [z] else []):=by
 unfold pick
 rw [List.range_succ,List.filterMap_append]
 by_cases e:p i=true
 ·simp [e,h]
 ·simp [e]
theorem pick_len (p:Nat→Bool) (ss:List Str) (i:Nat):(pick p ss i).length≤i:=by
 refine Nat.le_trans (List.length_filterMap_le ..) ?_
 rw [List.length_range]
 exact Nat.le_refl _
theorem pick_sub {p:Nat→Bool} {ss:List Str} {i:Nat}:∀ z∈pick p ss i,z∈ss:=fun z hz=>by
 obtain ⟨k,_,e⟩:=List.mem_filterMap.mp hz
 by_cases q:p k=true
 ·rw [if_pos q] at e; exact List.mem_of_getElem? e
 ·rw [if_neg q] at e; cases e
end Ky
namespace K14
open PySem L2 Ky
seal L2.PE L2.PS L2.PSs L2.PA L2.PT L2.PW L2.PG L2.PI L2.PTs L2.PO L2.OpR L2.IxR L2.CallR L2.MtM L2.MtR
noncomputable def top (i:Nat):Stmt:=PySem.Challenge.pw_roomward_k14_machines_told.main.body.getD i (.Pass ⟨0,0,0,0⟩)
noncomputable abbrev sName:Stmt:=top 22
noncomputable abbrev sRefuse:Stmt:=top 23
noncomputable abbrev sWeights:Stmt:=top 24
noncomputable abbrev sMarks:Stmt:=top 25
noncomputable abbrev sDeeds:Stmt:=top 26
noncomputable abbrev sInit:Stmt:=inClass sDeeds 0
noncomputable abbrev sHas:Stmt:=inClass sDeeds 3
noncomputable abbrev sRequire:Stmt:=inClass sDeeds 4
noncomputable abbrev sNamed:Stmt:=top 29
noncomputable abbrev sRefRooms:Stmt:=top 30
noncomputable abbrev sLeads:Stmt:=top 31
noncomputable abbrev sMachine:Stmt:=top 32
noncomputable abbrev sMixed:Stmt:=top 34
noncomputable abbrev sCell:Stmt:=top 35
noncomputable abbrev sNamesBy:Stmt:=top 36
noncomputable abbrev sDeedsBy:Stmt:=top 37
noncomputable abbrev sRoomsBy:Stmt:=top 38
noncomputable abbrev sMachineBy:Stmt:=top 39
noncomputable abbrev sPlantBy:Stmt:=top 40
noncomputable abbrev sWord:Stmt:=top 42
noncomputable abbrev sTried:Stmt:=top 43
noncomputable abbrev sRoomsOf:Stmt:=top 44
noncomputable abbrev sDoorsTold:Stmt:=top 45
noncomputable abbrev sTold:Stmt:=top 46
noncomputable abbrev sOdd:Stmt:=top 47
noncomputable abbrev sLaw:Stmt:=top 48
noncomputable abbrev mInit:Stmt:=inClass sMachine 0
noncomputable abbrev mDeeds:Stmt:=inClass sMachine 1
noncomputable abbrev mBegin:Stmt:=inClass sMachine 2
noncomputable abbrev mRooms:Stmt:=inClass sMachine 3
noncomputable abbrev mEnds:Stmt:=inClass sMachine 4
noncomputable abbrev mKnows:Stmt:=inClass sMachine 5
noncomputable abbrev mReqRoom:Stmt:=inClass sMachine 6
noncomputable abbrev mAt:Stmt:=inClass sMachine 7
noncomputable abbrev mTo:Stmt:=inClass sMachine 8
noncomputable abbrev mIsEnd:Stmt:=inClass sMachine 9
structure Txt (K:PySem.W.Frag) (mg:Str→Option Value):Prop where
 lett:∃ t,mg "LETTERS"=some (.str letters t)
 figu:∃ t,mg "FIGURES"=some (.str figures t)
 most:∃ t,mg "MOST_SIGNS"=some (.int 8 t)
 deeds:∃ t,mg "MOST_DEEDS"=some (.int 12 t)
 isi:mg "isinstance"=none
 str:mg "str"=none
 bool:mg "bool"=none
 int:mg "int"=none
 len:mg "len"=none
 all:mg "all"=none
 range:mg "range"=none
 sorted:mg "sorted"=none
 list:mg "list"=none
 enum:mg "enumerate"=none
section
variable {P:Program} {w:World} {K:PySem.W.Frag} {mg:Str→Option Value} {base:Heap}
theorem scM:FnScope ["_law_cell","_law_k","_law_one"] ["_law_cell","_law_k"] (defScope sMixed):=⟨rfl,rfl,rfl,by decide +kernel,rfl,by decide +kernel,by decide +kernel⟩
theorem ok_mixed {f:Addr} {fd:FuncData} (F:Fun K "_law_mixed" "_law_mixed" sMixed f fd):FnOk P w K mg base CX0 1 f fd ["_law_cell","_law_k"] spMixed:=by
 refine F.ok scM (fun vs H Q E h=>?_) (fun cdv A outer s H vs Q E hr h=>?_)
 ·obtain ⟨c,k,rfl,_⟩:=h
  rfl
 ·obtain ⟨c,k,rfl,q⟩:=h
  refine ⟨_,pss_cons (ps_set (i:=2) scM.nd rfl (Or.inl rfl) (pe_op op_mod (pe_op op_mul (pe_op op_add (pv 0) (pe_op op_mul pe_int (pv 1))) pe_int) pe_int))
   (pss_one (ps_ret (pe_op op_mod (pe_op op_mul (pv 2) (pe_op op_add (pe_op op_add (pv 2) (pe_op op_mul pe_int (pv 1))) pe_int)) pe_int))),?_⟩
  refine ⟨_,rfl,_,rfl,_,_,rfl,rfl,.inl ⟨by decide,by decide⟩,_,_,rfl,rfl,_,_,rfl,rfl,.inr ⟨by decide,by decide⟩,_,_,rfl,rfl,(by show (0:Int)<2147483647; decide),?_⟩
  have h0:0≤(c+7919*k)*48271%2147483647:=Int.emod_nonneg _ (by decide)
  have h1:(c+7919*k)*48271%2147483647<2147483647:=Int.emod_lt_of_pos _ (by decide)
  refine ⟨_,rfl,_,rfl,_,rfl,_,_,rfl,rfl,.inl ⟨by decide,by decide⟩,_,_,rfl,rfl,_,_,rfl,rfl,_,_,rfl,rfl,.inl ⟨?_,?_⟩,_,_,rfl,rfl,(by show (0:Int)<2147483629; decide),q⟩
  ·exact Int.lt_of_lt_of_le (by decide) h0
  ·exact Int.lt_of_lt_of_le h1 (by decide)
theorem scC:FnScope ["_law_script","_law_k"] ["_law_script","_law_k"] (defScope sCell):=⟨rfl,rfl,rfl,by decide +kernel,rfl,by decide +kernel,by decide +kernel⟩
theorem ok_cell {f fM:Addr} {fd fdM:FuncData} (F:Fun K "_law_cell_at" "_law_cell_at" sCell f fd) (T:Txt K mg) (FM:Fun K "_law_mixed" "_law_mixed" sMixed fM fdM) (bM:Binds K fdM ["_law_cell","_law_k"] []) (mM:mg "_law_mixed" = some (.ref fM)) :
  FnOk P w K mg base CX0 2 f fd ["_law_script","_law_k"] (spCell K):=by
 have GM:FnOk P w K mg base CX0 1 fM fdM ["_law_cell","_law_k"] spMixed:=ok_mixed FM
 refine F.ok scC (fun vs H Q E h=>?_) (fun cdv A outer s H vs Q E hr h=>?_)
 ·obtain ⟨a,ns,k,rfl,_⟩:=h
  rfl
 ·obtain ⟨a,ns,k,rfl,hS,q⟩:=h
  refine ⟨_,pss_cons (ps_if (pt_cmpR op_lt (pv 1) (pe_callB call_len_seq (by rfl) T.len PySem.boot_len (pa_cons (pv 0) pa_nil)) (nomark _))
    (pss_one (ps_ret (pe_call GM hr rfl mM FM.kp bM .nil pass0 (pa_cons (pe_ix ix_list (pv 0) (pv 1) (fun _ _=>rfl)) (pa_cons (pv 1) pa_nil))))) pss_nil)
   (pss_one (ps_ret pe_int)),?_⟩
  refine ⟨_,rfl,_,rfl,a,_,rfl,.inl hS,_,_,rfl,rfl,_,rfl,?_⟩
  rw [List.length_map]
  refine ite2 (fun hk=>?_) (fun hk=>?_)
  ·have hk':k<ns.length:=by have:=of_decide_eq_true hk; omega
   have ek:ns[k]?=some ns[k]:=by simp [hk']
   refine ⟨_,rfl,_,rfl,a,_,_,_,rfl,rfl,hS,atI_nat (v:=V.int ns[k]) (by rw [List.getElem?_map,ek]; rfl),_,rfl,ns[k],k,rfl,?_⟩
   have e:RW.cellAt ns k=RW.mixed ns[k] k:=by unfold RW.cellAt; rw [ek]
   rw [← e]
   exact q
  ·have hk':¬ k<ns.length:=by intro z; exact hk (decide_eq_true (by omega))
   have e:RW.cellAt ns k=0:=by unfold RW.cellAt; rw [List.getElem?_eq_none (by omega)]
   rw [e] at q
   exact q
theorem scN:FnScope ["thing","signs"] ["thing"] (defScope sName):=⟨rfl,rfl,rfl,by decide +kernel,rfl,by decide +kernel,by decide +kernel⟩
theorem ok_name {f:Addr} {fd:FuncData} (F:Fun K "is_name" "is_name" sName f fd) (T:Txt K mg):FnOk P w K mg base CX0 1 f fd ["thing"] (spName K):=by
 obtain ⟨tl,mL⟩:=T.lett
 obtain ⟨tf,mF⟩:=T.figu
 obtain ⟨tm,mM⟩:=T.most
 refine F.ok scN (fun vs H Q E h=>?_) (fun cdv A outer s H vs Q E hr h=>?_)
 ·obtain ⟨x,rfl,_⟩:=h
  rfl
 ·obtain ⟨x,rfl,h⟩:=h
  refine ⟨_,pss_cons (ps_if (pw_or (pt_not (pt_val (pe_callB call_isi (by rfl) T.isi Bo.isinstance (pa_cons (pv 0) (pa_cons (pe_bltn (v:=.ty "str") (by rfl) T.str Bo.str rfl) pa_nil)))))
     (pw_or (pt_not (pt_truth (pv 0) (fun _=>rfl)))
     (pw_or1 (pt_cmpR op_gt (pe_callB call_len_str (by rfl) T.len Bo.len (pa_cons (pv 0) pa_nil)) (pe_glob (v:=.int 8) (by rfl) mM ⟨_,rfl⟩) (nomark _))))).pt
    (pss_one (ps_ret pe_bl)) pss_nil)
   (pss_cons (ps_set (i:=1) scN.nd rfl (Or.inr rfl) (pe_op op_add_str (pe_glob (v:=.str letters) (by rfl) mL ⟨_,rfl⟩) (pe_glob (v:=.str figures) (by rfl) mF ⟨_,rfl⟩)))
   (pss_one (ps_ret (pe_and (pe_cmpR op_in_str (pe_ix ix_str (pv 0) pe_int (fun _ _=>rfl)) (pe_glob (v:=.str letters) (by rfl) mL ⟨_,rfl⟩) (by with_unfolding_all rfl))
    (pe_one (pe_callB (call_allB rfl) (by rfl) T.all Bo.all (pa_cons (pe_comp (N':=["sign","signs"]) (nown:=1) (js:=[1]) rfl
     ⟨rfl,by decide +kernel,by decide +kernel⟩ (blkNames (defScope sName) ["thing","signs"] rfl rfl (by decide +kernel))
     ⟨fun _ _ _ _=>pg_name (i:=0) (show List.Nodup (["sign","signs"]:List Str) by decide +kernel) rfl (Or.inl rfl) (.inr rfl),fun _ _ _ _=>pts_nil,fun _ _ _ _=>pe_cmpR op_in_str (pv 0) (pv 1) (by with_unfolding_all rfl)⟩
     (pi_str (pv 0))) pa_nil))))))),?_⟩
  rcases h with ⟨z,rfl,hz,q⟩ | ⟨t,ty,hk,q⟩
  ·refine ⟨_,rfl,.str z,.ty "str",.type "str",.type "str",true,rfl,rel_ty,TyOf.str z,rfl,_,rfl,iteF ?_⟩
   refine ⟨_,rfl,_,⟨hz,rfl⟩,?_⟩
   by_cases h0:z.length=0
   ·rw [h0]
    refine iteT (iteT ?_)
    have e:isNameS z=false:=by
     have:z.cps.toList.length=0:=by rw [Array.length_toList]; exact h0
     unfold isNameS isNameL
     rw [List.length_eq_zero_iff.mp this]
     rfl
    have q':=q H (Same.refl H)
    rw [e] at q'
    exact q'
   ·have hb:((z.length:Int) != 0)=true:=by simp [h0]
    rw [hb]
    refine iteF ⟨_,rfl,z,rfl,hz,_,_,rfl,rfl,_,rfl,?_⟩
    refine ite2 (fun h8=>?_) (fun h8=>?_)
    ·have h8':8<z.length:=by have:=of_decide_eq_true h8; omega
     have e:isNameS z=false:=by
      have hl:z.cps.toList.length=z.length:=by simp [Str.length]
      unfold isNameS isNameL
      rw [decide_eq_false (by omega)]
      rfl
     have q':=q H (Same.refl H)
     rw [e] at q'
     exact q'
    ·have h8':z.length≤8:=by
      by_cases z8:z.length≤8
      ·exact z8
      ·exact absurd (decide_eq_true (show (8:Int)<(z.length:Int) by omega)) h8
     have hl:z.cps.toList.length=z.length:=by simp [Str.length]
     obtain ⟨c,cs,ec⟩:∃ c cs,z.cps.toList=c::cs:=by
      cases e:z.cps.toList with
      | nil=>rw [e] at hl; exact absurd hl.symm h0
      | cons c cs=>exact ⟨c,cs,rfl⟩
     have hat:atI z.cps.toList 0=some c:=by
      rw [ec]
      exact atI_nat (j:=0) rfl
     have hn:isNameS z=(isLetter c&&z.cps.toList.all isSign):=by
      unfold isNameS isNameL
      rw [decide_eq_true (show 1≤z.cps.toList.length∧z.cps.toList.length≤8 by omega)]
      rw [ec]
      rfl
     refine ⟨_,_,rfl,rfl,by decide +kernel,?_⟩
     refine ⟨_,rfl,z,0,c,rfl,rfl,hz,hat,_,_,rfl,rfl,_,rfl,?_⟩
     rw [StrLaws.found_one,mem_letters]
     refine ite2 (fun hc=>?_) (fun hc=>?_)
     ·refine ⟨_,rfl,z,rfl,fun D hD=>blk_str (x:=z) (fun i σ' H'=>∃ v,σ'=[v,some (.str (letters++figures))]∧H' D=some (.lst (((z.cps.toList.take i).map isSign).map V.bl))∧Same H H') ?_ ?_ ?_⟩
      ·exact ⟨none,rfl,upd_same,fun b o e=>by rw [upd_ne (ne_of_none e hD)]; exact e⟩
      ·rintro i d σ' H' hd ⟨v,rfl,hl',sm⟩
       refine ⟨_,rfl,_,rfl,_,_,rfl,rfl,_,hl',?_,some (signV d),rfl,?_,?_⟩
       ·refine small1000 ?_
        rw [List.length_map,List.length_map,List.length_take]
        omega
       ·rw [upd_same,StrLaws.found_one,mem_signs]
        have hd':z.cps.toList[i]?=some d:=by rw [Array.getElem?_toList]; exact hd
        rw [List.take_succ,hd']
        simp
       ·intro b o e
        have e':=sm b o e
        rw [upd_ne (ne_of_none e hD)]
        exact e'
      ·rintro σ' H' ⟨v,rfl,hl',sm⟩
       refine ⟨D,_,rfl,SqL.of hl',?_⟩
       have q':=q H' sm
       rw [hn,hc,Bool.true_and] at q'
       have ea:((z.cps.toList.take z.cps.size).map isSign).all id=z.cps.toList.all isSign:=by
        rw [List.take_of_length_le (by simp),List.all_map]
        rfl
       rw [ea]
       exact q'
     ·have q':=q H (Same.refl H)
      rw [hn,Bool.eq_false_iff.mpr hc,Bool.false_and] at q'
      exact q'
  ·refine ⟨_,rfl,x,.ty "str",.type "str",t,false,rfl,rel_ty,ty,hk,_,rfl,iteT (iteT ?_)⟩
   exact q
theorem scW:FnScope ["names","weights","weight","name"] ["names"] (defScope sWeights):=⟨rfl,rfl,rfl,by decide +kernel,rfl,by decide +kernel,by decide +kernel⟩
theorem ok_weights {f:Addr} {fd:FuncData} (F:Fun K "weights_of" "weights_of" sWeights f fd) (T:Txt K mg):FnOk P w K mg base CX0 1 f fd ["names"] (spWeights K):=by
 refine F.ok scW (fun vs H Q E h=>?_) (fun cdv A outer s H vs Q E hr h=>?_)
 ·obtain ⟨a,ss,rfl,_⟩:=h
  rfl
 ·obtain ⟨a,ss,rfl,hS,h64,q⟩:=h
  have hu:=hu_of hr
  refine ⟨_,pss_cons (ps_set (i:=1) scW.nd rfl (Or.inl rfl) pe_dnewK)
   (pss_cons (ps_set (i:=2) scW.nd rfl (Or.inl rfl) pe_int)
   (pss_cons (ps_for PassesOwn.never rfl (pi_list (pe_callB call_sortedS (by rfl) T.sorted Bo.sorted (pac (pv 0) pa_nil))) (pg_name (i:=3) scW.nd rfl (Or.inl rfl))
    (pss_cons (ps_dput hu (pv 1) (pv 3) (pv 2) rfl) (pss_one (ps_set (i:=2) scW.nd rfl (Or.inl rfl) (pe_op op_mul (pv 2) pe_int)))))
   (pss_one (ps_ret (pv 1))))),?_⟩
  intro d hd
  have s0:Same H (upd H d (.dK [])):=fun b o e=>by rw [upd_ne (ne_of_none e hd)]; exact e
  refine ⟨_,rfl,a,ss,rfl,s0.seq hS,h64,fun p ss' hp pm so=>⟨p,rfl,⟨_,SqL.of upd_same⟩,?_⟩⟩
  have hpd:p≠d:=fun z=>by rw [z,upd_same] at hp; cases hp
  have hpH:H p=none:=by rw [upd_ne hpd] at hp; exact hp
  have hlen:ss'.length=ss.length:=pm.length_eq
  refine for_list (xs:=ss'.map V.str) (fun i σ H'=>∃ wv kvs nv,σ=[some (.ref a),some (.ref d),some (.int wv),nv]∧H' d=some (.dK kvs)∧H' p=some (.lst (ss'.map V.str))∧Same H H'∧kvs.length≤i∧wts (ss'.drop i) wv kvs=wts ss' 1 []) ?_ ?_ ?_ ?_
  ·exact ⟨1,[],none,rfl,by rw [upd_ne (Ne.symm hpd),upd_same],upd_same,fun b o e=>by rw [upd_ne (ne_of_none e hpH),upd_ne (ne_of_none e hd)]; exact e,Nat.le_refl _,rfl⟩
  ·rintro i σ H' _ ⟨wv,kvs,nv,rfl,h1,h2,h3,h4,h5⟩
   exact SqL.of h2
  ·rintro i x σ H' hx ⟨wv,kvs,nv,rfl,h1,h2,h3,h4,h5⟩
   rw [List.getElem?_map] at hx
   cases hz:ss'[i]? with
   | none=>rw [hz] at hx; cases hx
   | some z=>
    rw [hz] at hx
    cases hx
    have hi:i<ss'.length:=(List.getElem?_eq_some_iff.mp hz).1
    refine ⟨_,rfl,_,rfl,_,rfl,d,_,rfl,DPut.k (k:=Sum.inr z) h1 (small1000 (by omega)),?_⟩
    refine ⟨_,rfl,_,_,rfl,rfl,.inr ⟨by decide,by decide⟩,wv*2,putK kvs (Sum.inr z) (.int wv),some (.str z),rfl,upd_same,by rw [upd_ne hpd]; exact h2,fun b o e=>?_,?_,?_⟩
    ·rw [upd_ne (ne_of_none e hd)]; exact h3 b o e
    ·exact Nat.le_trans (length_putK _ _ _) (by omega)
    ·rw [← h5,List.drop_eq_getElem_cons hi]
     rw [(List.getElem?_eq_some_iff.mp hz).2]
     rfl
  ·rintro σ H' ⟨wv,kvs,nv,rfl,h1,h2,h3,h4,h5⟩
   rw [List.length_map,List.drop_length] at h5
   refine ⟨_,rfl,q d ss' H' h3 hd pm so ?_⟩
   rw [h1]
   exact congrArg (fun z=>some (HO.dK z)) h5
theorem scK:FnScope ["names","marks","name"] ["names"] (defScope sMarks):=⟨rfl,rfl,rfl,by decide +kernel,rfl,by decide +kernel,by decide +kernel⟩
theorem ok_marks {f:Addr} {fd:FuncData} (F:Fun K "marks_of" "marks_of" sMarks f fd) (T:Txt K mg):FnOk P w K mg base CX0 1 f fd ["names"] (spMarks K):=by
 refine F.ok scK (fun vs H Q E h=>?_) (fun cdv A outer s H vs Q E hr h=>?_)
 ·obtain ⟨a,ss,rfl,_⟩:=h
  rfl
 ·obtain ⟨a,ss,rfl,hS,hlen,q⟩:=h
  have hu:=hu_of hr
  refine ⟨_,pss_cons (ps_set (i:=1) scK.nd rfl (Or.inl rfl) pe_dnewK)
   (pss_cons (ps_for PassesOwn.never rfl (pi_list (pv 0)) (pg_name (i:=2) scK.nd rfl (Or.inl rfl)) (pss_one (ps_dput hu (pv 1) (pv 2) pe_bl rfl)))
   (pss_one (ps_ret (pv 1)))),?_⟩
  intro d hd
  have s0:Same H (upd H d (.dK [])):=fun b o e=>by rw [upd_ne (ne_of_none e hd)]; exact e
  refine ⟨_,rfl,a,rfl,⟨_,s0.seq hS⟩,?_⟩
  refine for_list (xs:=ss.map V.str) (fun i σ H'=>∃ kvs nv,σ=[some (.ref a),some (.ref d),nv]∧H' d=some (.dK kvs)∧Same H H'∧kvs.length≤i∧mks (ss.drop i) kvs=mks ss []) ?_ ?_ ?_ ?_
  ·exact ⟨[],none,rfl,upd_same,s0,Nat.le_refl _,rfl⟩
  ·rintro i σ H' _ ⟨kvs,nv,rfl,h1,h3,h4,h5⟩
   exact h3.seq hS
  ·rintro i x σ H' hx ⟨kvs,nv,rfl,h1,h3,h4,h5⟩
   rw [List.getElem?_map] at hx
   cases hz:ss[i]? with
   | none=>rw [hz] at hx; cases hx
   | some z=>
    rw [hz] at hx
    cases hx
    have hi:i<ss.length:=(List.getElem?_eq_some_iff.mp hz).1
    refine ⟨_,rfl,_,rfl,d,_,rfl,DPut.k (k:=Sum.inr z) h1 (small1000 (by omega)),putK kvs (Sum.inr z) (.bl true),some (.str z),rfl,upd_same,fun b o e=>?_,?_,?_⟩
    ·rw [upd_ne (ne_of_none e hd)]; exact h3 b o e
    ·exact Nat.le_trans (length_putK _ _ _) (by omega)
    ·rw [← h5,List.drop_eq_getElem_cons hi]
     rw [(List.getElem?_eq_some_iff.mp hz).2]
     rfl
  ·rintro σ H' ⟨kvs,nv,rfl,h1,h3,h4,h5⟩
   rw [List.length_map,List.drop_length] at h5
   refine ⟨_,rfl,q d H' h3 hd ?_⟩
   rw [h1]
   exact congrArg (fun z=>some (HO.dK z)) h5
end
end K14
namespace K14
open PySem L2 Ky
seal L2.PE L2.PS L2.PSs L2.PA L2.PT L2.PW L2.PG L2.PI L2.PTs L2.PO L2.OpR L2.IxR L2.CallR L2.MtM L2.MtR
structure Exc (K:PySem.W.Frag) (mg:Str→Option Value) (cl:Why→Addr):Prop where
 nn:mg "NoName"=some (.ref (cl .noName))
 nd:mg "NoDeed"=some (.ref (cl .noDeed))
 tt:mg "TwiceTold"=some (.ref (cl .twice))
 tm:mg "TooMany"=some (.ref (cl .tooMany))
 x:∀ k,ExcC K (cl k)
section
variable {P:Program} {w:World} {K:PySem.W.Frag} {mg:Str→Option Value} {base:Heap}
theorem scR:FnScope ["names","ahead","name"] ["names"] (defScope sRefuse):=⟨rfl,rfl,rfl,by decide +kernel,rfl,by decide +kernel,by decide +kernel⟩
theorem ok_refuse {f fN:Addr} {fd fdN:FuncData} {cl:Why→Addr} (F:Fun K "refuse_names" "refuse_names" sRefuse f fd) (T:Txt K mg) (Ex:Exc K mg cl)
  (FN:Fun K "is_name" "is_name" sName fN fdN) (bN:Binds K fdN ["thing"] []) (mN:mg "is_name" = some (.ref fN)) :
  FnOk P w K mg base (CXE P w) 2 f fd ["names"] (spRefuse K cl):=by
 have GN:FnOk P w K mg base CX0 1 fN fdN ["thing"] (spName K):=ok_name FN T
 obtain ⟨tm,mD⟩:=T.deeds
 refine okE F scR (fun vs H Q E h=>?_) (fun cdv A outer s H vs Q E hr h D=>?_)
 ·obtain ⟨a,ss,rfl,_⟩:=h
  rfl
 ·obtain ⟨a,ss,rfl,hS,hsh,q⟩:=h
  have hu:=hu_of hr
  refine ⟨_,pss_cons (ps_if (pt_cmpR op_gt (pe_callB call_len_seq (by rfl) T.len Bo.len (pac (pv 0) pa_nil)) (pe_glob (v:=.int 12) (by rfl) mD ⟨_,rfl⟩) (nomark _))
    (pss_one (ps_raise D rfl (by rfl) Ex.tm (Ex.x .tooMany) (pac pe_str pa_nil))) pss_nil)
   (pss_cons (ps_set (i:=1) scR.nd rfl (Or.inl rfl) pe_dnewK)
   (pss_one (ps_for PassesOwn.leaving rfl (pi_list (pv 0)) (pg_name (i:=2) scR.nd rfl (Or.inl rfl))
    (pss_cons (ps_if (pt_not (pt_val (pe_call GN hr rfl mN FN.kp bN .nil pass0 (pac (pv 2) pa_nil)))) (pss_one (ps_raise D rfl (by rfl) Ex.nn (Ex.x .noName) (pac pe_str pa_nil))) pss_nil)
    (pss_cons (ps_if (pt_cmp (pc_din hu (pv 2) (pv 1))) (pss_one (ps_raise D rfl (by rfl) Ex.tt (Ex.x .twice) (pac (pe_join3 pe_str (pe_fmt (pv 2)) pe_str) pa_nil))) pss_nil)
    (pss_one (ps_dput hu (pv 1) (pv 2) pe_bl rfl))))))),?_⟩
  refine ⟨_,rfl,a,_,rfl,.inl hS,_,_,rfl,rfl,_,rfl,?_⟩
  rw [List.length_map]
  have fin:∀ (k:Why) H',Same H H'→refused ss=some k→E (.ref (cl k)) none H':=fun k H' sm e=>by
   have:=q H' sm
   rw [e] at this
   exact this
  refine ite2 (fun h12=>?_) (fun h12=>?_)
  ·have h12':12<ss.length:=by have:=of_decide_eq_true h12; omega
   exact ⟨by show 1≤sizeLine; decide,fin .tooMany H (Same.refl H) (if_pos h12')⟩
  ·have h12':¬ 12<ss.length:=fun z=>h12 (decide_eq_true (by omega))
   have er:refused ss=scan [] ss:=if_neg h12'
   intro d hd
   have s0:Same H (upd H d (.dK [])):=fun b o e=>by rw [upd_ne (ne_of_none e hd)]; exact e
   refine ⟨_,rfl,a,rfl,⟨_,s0.seq hS⟩,?_⟩
   refine for_list (xs:=ss.map V.str) (fun i σ H'=>∃ kvs nv,σ=[some (.ref a),some (.ref d),nv]∧H' d=some (.dK kvs)∧Same H H'∧kvs.length≤i∧(∀ z,(valV kvs (Sum.inr z)).isSome=decide (z∈ss.take i))∧scan (ss.take i) (ss.drop i)=scan [] ss) ?_ ?_ ?_ ?_
   ·exact ⟨[],none,rfl,upd_same,s0,Nat.le_refl _,fun z=>by simp [valV],rfl⟩
   ·rintro i σ H' _ ⟨kvs,nv,rfl,h1,h3,h4,h5,h6⟩
    exact h3.seq hS
   ·rintro i x σ H' hx ⟨kvs,nv,rfl,h1,h3,h4,h5,h6⟩
    rw [List.getElem?_map] at hx
    cases hz:ss[i]? with
    | none=>rw [hz] at hx; cases hx
    | some z=>
     rw [hz] at hx
     cases hx
     obtain ⟨hi,hzi⟩:=List.getElem?_eq_some_iff.mp hz
     have hzl:z.length≤1000:=hsh z (List.mem_of_getElem? hz)
     have ed:ss.drop i=z::ss.drop (i+1):=by rw [List.drop_eq_getElem_cons hi,hzi]
     have et:ss.take (i+1)=ss.take i++[z]:=by rw [List.take_succ,hz]; rfl
     have sl:sizeLine=16777216:=sizeLine_eq
     rw [ed] at h6
     refine ⟨_,rfl,.str z,rfl,.inl ⟨z,rfl,by omega,fun H2 sm2=>⟨_,rfl,?_⟩⟩⟩
     have s2:Same H H2:=h3.trans sm2
     by_cases hn:isNameS z=true
     ·rw [hn]
      refine iteF ⟨_,rfl,_,rfl,d,_,rfl,DGet.k (k:=Sum.inr z) (sm2 d _ h1),_,rfl,?_⟩
      rw [h5 z]
      by_cases hm:z∈ss.take i
      ·rw [decide_eq_true hm]
       refine iteT ⟨_,rfl,?_,_,rfl,z,rfl,by omega,_,rfl,?_,_,rfl,?_,?_,by show 1≤sizeLine; decide,fin .twice H2 s2 ?_⟩
       ·rw [len_cat]; show 0+9≤sizeLine; decide
       ·rw [len_cat,len_cat]; show 0+9+z.length≤sizeLine; omega
       ·rw [len_cat,len_cat,len_cat]; show 0+9+z.length+14≤sizeLine; omega
       ·rw [len_cat,len_cat,len_cat]; show 0+9+z.length+14≤sizeLine; omega
       ·rw [er,← h6]
        show (if isNameS z=true then (if z∈ss.take i then some Why.twice else scan (ss.take i++[z]) (ss.drop (i+1))) else some .noName)=_
        rw [if_pos hn,if_pos hm]
      ·rw [decide_eq_false hm]
       refine iteF ⟨_,rfl,_,rfl,d,_,rfl,DPut.k (k:=Sum.inr z) (sm2 d _ h1) (small1000 (by omega)),putK kvs (Sum.inr z) (.bl true),some (.str z),rfl,upd_same,fun b o e=>?_,?_,fun y=>?_,?_⟩
       ·rw [upd_ne (ne_of_none e hd)]; exact s2 b o e
       ·exact Nat.le_trans (length_putK _ _ _) (by omega)
       ·rw [valV_put,et]
        by_cases hy:y=z
        ·subst hy
         rw [if_pos rfl]
         simp
        ·rw [if_neg (fun e=>hy (Sum.inr.inj e)),h5 y]
         simp [hy]
       ·rw [et,← h6]
        show _=if isNameS z=true then (if z∈ss.take i then some .twice else scan (ss.take i++[z]) (ss.drop (i+1))) else some .noName
        rw [if_pos hn,if_neg hm]
     ·rw [Bool.eq_false_iff.mpr hn]
      refine iteT ⟨by show 1≤sizeLine; decide,fin .noName H2 s2 ?_⟩
      rw [er,← h6]
      exact if_neg hn
   ·rintro σ H' ⟨kvs,nv,rfl,h1,h3,h4,h5,h6⟩
    rw [List.length_map,List.drop_length,List.take_length] at h6
    have:=q H' h3
    rw [er,← h6] at this
    exact this
structure DCls (K:PySem.W.Frag) (C:Addr):Prop where
 cl:Cls K C
 nw:NoAttr K C "weights"
 nf:NoAttr K C "free_marks"
theorem scH:FnScope ["self","thing"] ["self","thing"] (defScope sHas):=⟨rfl,rfl,rfl,by decide +kernel,rfl,by decide +kernel,by decide +kernel⟩
theorem kitN (K:PySem.W.Frag):PySem.W.kitOne K (.type "NoneType") (.type "str")=some false:=by
 unfold PySem.W.kitOne PySem.W.kitCls
 rw [if_neg (by decide)]
 dsimp only
 rw [if_pos (by decide +kernel)]
 show (PySem.fastBuiltinMro "NoneType").map _=_
 decide +kernel
theorem kitI (K:PySem.W.Frag):PySem.W.kitOne K (.type "int") (.type "str")=some false:=by
 unfold PySem.W.kitOne PySem.W.kitCls
 rw [if_neg (by decide)]
 dsimp only
 rw [if_pos (by decide +kernel)]
 show (PySem.fastBuiltinMro "int").map _=_
 decide +kernel
theorem ok_has {f fN C:Addr} {fd fdN:FuncData} (F:Fun K "has" "Deeds.has" sHas f fd) (T:Txt K mg) (DC:DCls K C)
  (FN:Fun K "is_name" "is_name" sName fN fdN) (bN:Binds K fdN ["thing"] []) (mN:mg "is_name" = some (.ref fN)) :
  FnOk P w K mg base CX0 2 f fd ["self","thing"] (spHas K C):=by
 have GN:FnOk P w K mg base CX0 1 fN fdN ["thing"] (spName K):=ok_name FN T
 refine F.ok scH (fun vs H Q E h=>?_) (fun cdv A outer s H vs Q E hr h=>?_)
 ·obtain ⟨p,x,kvs,rfl,_⟩:=h
  rfl
 ·obtain ⟨p,x,kvs,rfl,hz,⟨dx,fs,dw,o,hp,hm,hw,hk⟩,q⟩:=h
  have hu:=hu_of hr
  refine ⟨_,pss_one (ps_ret (pe_and (pe_call GN hr rfl mN FN.kp bN .nil pass0 (pac (pv 1) pa_nil)) (pe_one (pe_cmp (pc_din hu (pv 1) (pe_fld (pv 0) rfl)))))),?_⟩
  rcases hz with ⟨z,rfl,hz⟩ | rfl | rfl
  ·refine ⟨_,rfl,.str z,rfl,.inl ⟨z,rfl,by have sl:sizeLine=16777216:=sizeLine_eq; omega,fun H2 s2=>⟨_,rfl,?_⟩⟩⟩
   have q2:=q H2 s2
   refine ite2 (fun hn=>?_) (fun hn=>?_)
   ·rw [goodV,hn,Bool.true_and] at q2
    exact ⟨_,rfl,_,rfl,p,C,dx,fs,_,rfl,s2 p _ hp,DC.cl,DC.nw,hw,dw,_,rfl,.inl ⟨kvs,Sum.inr z,.inr ⟨o,s2 dw _ hk⟩,rfl,rfl⟩,q2⟩
   ·rw [goodV,Bool.eq_false_iff.mpr hn,Bool.false_and] at q2
    exact q2
  ·exact ⟨_,rfl,.non,rfl,.inr ⟨_,.non,kitN K,_,rfl,iteF (q H (Same.refl H))⟩⟩
  ·exact ⟨_,rfl,.int 5,rfl,.inr ⟨_,.int 5,kitI K,_,rfl,iteF (q H (Same.refl H))⟩⟩
theorem scQ:FnScope ["self","row","deed"] ["self","row"] (defScope sRequire):=⟨rfl,rfl,rfl,by decide +kernel,rfl,by decide +kernel,by decide +kernel⟩
theorem ok_require {f fN fH C:Addr} {fd fdN fdH:FuncData} {cl:Why→Addr} (F:Fun K "require" "Deeds.require" sRequire f fd) (T:Txt K mg) (Ex:Exc K mg cl) (DC:DCls K C)
  (FN:Fun K "is_name" "is_name" sName fN fdN) (bN:Binds K fdN ["thing"] []) (mN:mg "is_name" = some (.ref fN))
  (FH:Fun K "has" "Deeds.has" sHas fH fdH) (bH:Binds K fdH ["self","thing"] []) (mH:Meth K C "has" fH) :
  FnOk P w K mg base (CXE P w) 3 f fd ["self","row"] (spRequire K C cl):=by
 have GH:FnOk P w K mg base CX0 2 fH fdH ["self","thing"] (spHas K C):=ok_has FH T DC FN bN mN
 refine okE F scQ (fun vs H Q E h=>?_) (fun cdv A outer s H vs Q E hr h D=>?_)
 ·obtain ⟨p,b,fs,kvs,rfl,_⟩:=h
  rfl
 ·obtain ⟨p,b,fs,kvs,rfl,hS,hsh,⟨dx,fl,dw,o,hp,hm,hw,hk⟩,q⟩:=h
  refine ⟨_,pss_one (ps_for PassesOwn.leaving rfl (pi_list (pv 1)) (pg_name (i:=2) scQ.nd rfl (Or.inl rfl))
    (pss_one (ps_if (pt_not (pt_val (pe_meth (pv 0) DC.cl mH GH hr bH .nil pass0 (pac (pv 2) pa_nil)))) (pss_one (ps_raise D rfl (by rfl) Ex.nd (Ex.x .noDeed) (pac pe_str pa_nil))) pss_nil))),?_⟩
  refine ⟨_,rfl,b,rfl,⟨_,hS⟩,?_⟩
  refine for_list (xs:=fs) (fun i σ H'=>∃ nv,σ=[some (.ref p),some (.ref b),nv]∧Same H H'∧(fs.take i).all (goodV kvs)=true) ?_ ?_ ?_ ?_
  ·exact ⟨none,rfl,Same.refl H,rfl⟩
  ·rintro i σ H' _ ⟨nv,rfl,h3,h4⟩
   exact h3.seq hS
  ·rintro i x σ H' hz ⟨nv,rfl,h3,h4⟩
   refine ⟨_,rfl,p,dx,fl,rfl,h3 p _ hp,hm "has" (by decide),_,rfl,p,x,kvs,rfl,hsh x (List.mem_of_getElem? hz),⟨dx,fl,dw,o,h3 p _ hp,hm,hw,h3 dw _ hk⟩,fun H2 s2=>⟨_,rfl,?_⟩⟩
   cases hb:goodV kvs x with
   | true=>
    refine iteF ⟨some x,rfl,h3.trans s2,?_⟩
    rw [List.take_succ,hz,List.all_append,h4]
    simp [hb]
   | false=>
    refine iteT ⟨by show 1≤sizeLine; decide,?_⟩
    have:=q H2 (h3.trans s2)
    rw [if_neg ?_] at this
    ·exact this
    ·intro z'
     have:=List.all_eq_true.mp z' x (List.mem_of_getElem? hz)
     rw [hb] at this
     cases this
  ·rintro σ H' ⟨nv,rfl,h3,h4⟩
   rw [List.take_length] at h4
   have:=q H' h3
   rw [if_pos h4] at this
   exact this
end
end K14
namespace K14
open PySem L2 Ky
seal L2.PE L2.PS L2.PSs L2.PA L2.PT L2.PW L2.PG L2.PI L2.PTs L2.PO L2.OpR L2.IxR L2.CallR L2.MtM L2.MtR
theorem seqBut {K:PySem.W.Frag} {H H':Hp} {a x C dx:Addr} {fs:List (Str×V)} {xs:List V} (e:SameBut x H H') (hx:H x=some (.ins C dx fs)) (h:SqL K H a xs):SqL K H' a xs:=by
 rcases h with (h | ⟨o,h⟩) | h
 ·exact .inl (.inl (e _ _ (fun z=>by rw [z,hx] at h; cases h) h))
 ·exact .inl (.inr ⟨o,e _ _ (fun z=>by rw [z,hx] at h; cases h) h⟩)
 ·exact .inr h
theorem noW (v:V):∀ m∈mths,List.lookup m [(("weights" : Str),v)]=none:=by
 have h:∀ m∈mths,(m==("weights" : Str))=false:=by decide +kernel
 intro m hm
 simp only [List.lookup,h m hm]
theorem noW2 (v u:V):∀ m∈mths,List.lookup m [(("weights" : Str),v),(("free_marks" : Str),u)]=none:=by
 have h:∀ m∈mths,(m==("weights" : Str))=false∧(m==("free_marks" : Str))=false:=by decide +kernel
 intro m hm
 simp only [List.lookup,(h m hm).1,(h m hm).2]
theorem all_good (kvs:List (Key×V)) (fs:List Str):(fs.map V.str).all (goodV kvs)=fs.all (fun z=>isNameS z&&(valV kvs (Sum.inr z)).isSome):=by
 rw [List.all_map]
 rfl
theorem thing_str {fs:List Str} (h:Short fs):∀ x∈fs.map V.str,Thing x:=fun x hx=>by
 obtain ⟨z,hz,rfl⟩:=List.mem_map.mp hx
 exact .inl ⟨z,rfl,h z hz⟩
theorem valV_wts:∀ (ss:List Str) (wv:Int) (kvs:List (Key×V)) (z:Str),(valV (wts ss wv kvs) (Sum.inr z)).isSome=(decide (z∈ss)||(valV kvs (Sum.inr z)).isSome)
 | [],_,kvs,z=>by simp [wts]
 | s::r,wv,kvs,z=>by
  rw [wts,valV_wts r,valV_put]
  by_cases h:z=s
  ·subst h
   simp
  ·rw [if_neg fun e=>h (Sum.inr.inj e)]
   simp [h]
section
variable {P:Program} {w:World} {K:PySem.W.Frag} {mg:Str→Option Value} {base:Heap}
theorem scI:FnScope ["self","names","free","free_names"] ["self","names","free"] (defScope sInit):=⟨rfl,rfl,rfl,by decide +kernel,rfl,by decide +kernel,by decide +kernel⟩
theorem ok_init {f fR fW fK fQ C:Addr} {fd fdR fdW fdK fdQ:FuncData} {cl:Why→Addr} (F:FunD K "__init__" "Deeds.__init__" sInit f fd) (T:Txt K mg) (DC:DCls K C)
  (GR:FnOk P w K mg base (CXE P w) 2 fR fdR ["names"] (spRefuse K cl)) (kR:PySem.W.keepIn K (.ref fR)=true) (bR:Binds K fdR ["names"] []) (mR:mg "refuse_names" = some (.ref fR))
  (GW:FnOk P w K mg base CX0 1 fW fdW ["names"] (spWeights K)) (kW:PySem.W.keepIn K (.ref fW)=true) (bW:Binds K fdW ["names"] []) (mW:mg "weights_of" = some (.ref fW))
  (GK:FnOk P w K mg base CX0 1 fK fdK ["names"] (spMarks K)) (kK:PySem.W.keepIn K (.ref fK)=true) (bK:Binds K fdK ["names"] []) (mK:mg "marks_of" = some (.ref fK))
  (GQ:FnOk P w K mg base (CXE P w) 3 fQ fdQ ["self","row"] (spRequire K C cl)) (bQ:Binds K fdQ ["self","row"] []) (mQ:Meth K C "require" fQ) :
  FnOk P w K mg base (CXE P w) 4 f fd ["self","names","free"] (spInit K C cl):=by
 refine okED F scI (fun vs H Q E h=>?_) (fun cdv A outer s H vs Q E hr h D=>?_)
 ·obtain ⟨x,a,y,dx,ss,fs,rfl,_⟩:=h
  rfl
 ·obtain ⟨x,a,y,dx,ss,fs,rfl,hx,hA,hB,hsh,hfh,hfl,q⟩:=h
  have hr1:Room 1 _:=hr.mono (by decide)
  have hr2:Room 2 _:=hr.mono (by decide)
  refine ⟨_,pss_cons (ps_expr (pe_call GR hr2 rfl mR kR bR .nil (D.passes fun _ _ _ z=>z) (pac (pv 1) pa_nil)))
   (pss_cons (ps_fld (pv 0) (pe_freeze (pe_call GW hr1 rfl mW kW bW .nil pass0 (pac (pv 1) pa_nil))) rfl)
   (pss_cut (fun σ H'=>∃ b d o ss',σ=[some (.ref x),some (.ref a),some y,some (.ref b)]∧H' x=some (.ins C dx [("weights",.ref d)])∧H' d=some (.frz o (.dK (wts ss' 1 [])))∧SameBut x H H'∧SqL K H' b (fs.map V.str)∧ss'.Perm ss∧PyProof.Rows.sortedS ss'=true)
    (ps_set (i:=3) scI.nd rfl (Or.inl rfl) (pe_ifExp (pt_cmpR op_isN (pv 2) pe_non (nomark _)) (pe_lst pa_nil) (pv 2)))
   (pss_cons (ps_expr (pe_meth (pv 0) DC.cl mQ GQ hr bQ .nil (D.passes fun _ _ _ z=>z) (pac (pv 3) pa_nil)))
   (pss_one (ps_fld (pv 0) (pe_call GK hr1 rfl mK kK bK .nil pass0 (pac (pv 3) pa_nil)) rfl))))),?_⟩
  refine ⟨_,rfl,a,ss,rfl,hA,hsh,fun H1 s1=>?_⟩
  have sb:∀ {H'},Same H H'→SameBut x H H':=fun sm b o _ e=>sm b o e
  cases hR:refused ss with
  | some k=>
   have:=q H1 (sb s1)
   unfold deedsErr at this
   rw [hR] at this
   exact this
  | none=>
   have h12:ss.length≤12:=by
    unfold refused at hR
    by_cases z:12<ss.length
    ·rw [if_pos z] at hR; cases hR
    ·omega
   refine ⟨_,rfl,a,ss,rfl,s1.seq hA,by omega,fun d ss' H2 s2 hd pm so hd2=>⟨d,_,rfl,hd2,fun o=>?_⟩⟩
   have hx2:=s2 x _ (s1 x _ hx)
   have ndx:d≠x:=fun z=>by rw [z,hx2] at hd2; cases hd2
   have hx2':(upd H2 d (.frz o (.dK (wts ss' 1 [])))) x=some (.ins C dx []):=by rw [upd_ne (Ne.symm ndx)]; exact hx2
   refine ⟨_,rfl,x,C,dx,[],rfl,hx2',DC.cl,DC.nw,by decide,?_⟩
   generalize hH3:upd (upd H2 d (.frz o (.dK (wts ss' 1 [])))) x (.ins C dx (putF "weights" (.ref d) []))=H3
   have hx3:H3 x=some (.ins C dx [("weights",.ref d)]):=by rw [← hH3,upd_same]; rfl
   have hd3:H3 d=some (.frz o (.dK (wts ss' 1 []))):=by rw [← hH3,upd_ne ndx,upd_same]
   have hHd:H d=none:=by
    cases e:H d with
    | none=>rfl
    | some u=>rw [s1 d u e] at hd; cases hd
   have s3:SameBut x H H3:=fun b o n e=>by rw [← hH3,upd_ne n,upd_ne (ne_of_none e hHd)]; exact s2 b o (s1 b o e)
   have hB3:(y=.non∧fs=[])∨∃ b,y=.ref b∧SqL K H3 b (fs.map V.str):=hB.imp id fun ⟨b,e,h⟩=>⟨b,e,seqBut s3 hx h⟩
   refine ⟨?_,?_⟩
   ·rcases hB3 with ⟨rfl,rfl⟩ | ⟨b,rfl,hB3⟩
    ·refine ⟨_,rfl,rfl,_,rfl,ite2 (fun _=>⟨by show 0≤sizeLine; decide,fun l hl=>⟨l,d,o,ss',rfl,?_,?_,?_,SqL.of upd_same,pm,so⟩⟩) fun z=>absurd (decide_eq_true rfl) z⟩
     ·rw [upd_ne (ne_of_none hx3 hl)]; exact hx3
     ·rw [upd_ne (ne_of_none hd3 hl)]; exact hd3
     ·exact fun c u n e=>by rw [upd_ne (ne_of_none (s3 c u n e) hl)]; exact s3 c u n e
    ·exact ⟨_,rfl,rfl,_,rfl,ite2 (fun z=>absurd (of_decide_eq_true z) (by intro z; cases z)) fun _=>⟨_,rfl,b,d,o,ss',rfl,hx3,hd3,s3,hB3,pm,so⟩⟩
   clear hB3 hd3 hx3 s3 hH3 H3 hx2' hx2 ndx hd2
   rintro σ H3 ⟨b,d,o,ss',rfl,hx3,hd3,s3,hB3,pm,so⟩
   have e4:∀ z,(valV (wts ss' 1 []) (Sum.inr z)).isSome=decide (z∈ss):=fun z=>by
    rw [valV_wts]
    simp [valV,pm.mem_iff]
   refine ⟨_,rfl,x,dx,_,rfl,hx3,by rfl,_,rfl,x,b,fs.map V.str,_,rfl,hB3,thing_str hfh,⟨dx,_,d,o,hx3,noW _,by rfl,hd3⟩,fun H4 s4=>?_⟩
   have s4':SameBut x H H4:=fun b o n e=>s4 b o (s3 b o n e)
   rw [all_good]
   simp only [e4]
   have q4:=q
   unfold deedsErr at q4
   rw [hR] at q4
   have ndx:d≠x:=fun z=>by rw [z,hx3] at hd3; cases hd3
   by_cases hall:fs.all (fun f=>isNameS f&&decide (f∈ss))=true
   ·simp only [if_pos hall] at q4 ⊢
    refine ⟨_,rfl,b,fs,rfl,s4.seq hB3,hfl,fun df H5 s5 hdf hdf5=>?_⟩
    have hx5:=s5 x _ (s4 x _ hx3)
    have ndf:df≠x:=fun z=>by rw [z,hx5] at hdf5; cases hdf5
    refine ⟨_,rfl,x,C,dx,_,rfl,hx5,DC.cl,DC.nf,by show 1<1000; decide,?_⟩
    refine q4 _ (fun b o n e=>by rw [upd_ne n]; exact s5 b o (s4' b o n e)) d df o ss' (by rw [upd_same]; rfl) (by rw [upd_ne ndx]; exact s5 d _ (s4 d _ hd3)) (by rw [upd_ne ndf]; exact hdf5) pm so
   ·simp only [if_neg hall] at q4 ⊢
    exact q4 H4 s4'
end
end K14
namespace K14
open PySem L2 Ky
seal L2.PE L2.PS L2.PSs L2.PA L2.PT L2.PW L2.PG L2.PI L2.PTs L2.PO L2.OpR L2.IxR L2.CallR L2.MtM L2.MtR
noncomputable abbrev some12:List Str:=["go","a","b1","stop","r0","r1","open","x","yy","z9","longname","c"]
noncomputable def stepOf (c:Int):Int:=([1,5,7,11]:List Int).getD (c/12%4).toNat 1
noncomputable def nameAt (c:Int) (k:Nat):Str:=some12.getD ((c+stepOf c*k)%12).toNat ""
noncomputable def namesBy (c:Int) (n:Nat):List Str:=(List.range n).map (nameAt c)
noncomputable def manyOf (c:Int):Nat:=if c/8%16=1 then (c/128%2).toNat else ([2,3,3,4,4,5,6,12]:List Nat).getD (c%8).toNat 0
noncomputable def freeBy (c:Int) (ss:List Str):List Str:=(List.range ss.length).filterMap fun (k:Nat)=>if RW.mixed c (k:Nat)%4=1 then ss[k]? else none
theorem atI_getD {α β:Type} (f:α→β) (xs:List α) (d:α) {i:Int} (h0:0≤i) (h1:i<xs.length):atI (xs.map f) i=some (f (xs.getD i.toNat d)):=by
 have hl:i.toNat<xs.length:=by omega
 have e:i=(i.toNat:Int):=by omega
 have h:=atI_nat (xs:=xs.map f) (j:=i.toNat) (v:=f (xs.getD i.toNat d)) (by rw [List.getElem?_map,List.getD_eq_getElem?_getD,List.getElem?_eq_getElem hl]; rfl)
 rw [← e] at h
 exact h
theorem emod_in (c:Int) {m:Int} (h:0<m):0≤c%m∧c%m<m:=⟨Int.emod_nonneg _ (by omega),Int.emod_lt_of_pos _ h⟩
theorem step_all:∀ n,n<4→([1,5,7,11]:List Int).getD n 1=1∨([1,5,7,11]:List Int).getD n 1=5∨([1,5,7,11]:List Int).getD n 1=7∨([1,5,7,11]:List Int).getD n 1=11:=by decide +kernel
theorem stepOf_cases (c:Int):stepOf c=1∨stepOf c=5∨stepOf c=7∨stepOf c=11:=by
 have h:=emod_in (c/12) (m:=4) (by decide)
 exact step_all _ (by omega)
theorem many_all:∀ n,n<8→([2,3,3,4,4,5,6,12]:List Nat).getD n 0≤12∧(([2,3,3,4,4,5,6,12]:List Int).getD n 0)=((([2,3,3,4,4,5,6,12]:List Nat).getD n 0:Nat):Int):=by decide +kernel
theorem many_list (c:Int):([2,3,3,4,4,5,6,12]:List Nat).getD (c%8).toNat 0≤12∧(([2,3,3,4,4,5,6,12]:List Int).getD (c%8).toNat 0)=((([2,3,3,4,4,5,6,12]:List Nat).getD (c%8).toNat 0:Nat):Int):=by
 have h:=emod_in c (m:=8) (by decide)
 exact many_all _ (by omega)
theorem manyOf_le (c:Int):manyOf c≤12:=by
 unfold manyOf
 split
 ·have h:=emod_in (c/128) (m:=2) (by decide)
  omega
 ·exact (many_list c).1
noncomputable def freeUp (c:Int) (ss:List Str) (i:Nat):List Str:=(List.range i).filterMap fun (k:Nat)=>if RW.mixed c (k:Nat)%4=1 then ss[k]? else none
inductive spNamesBy (K:PySem.W.Frag) (vs:List V) (H:Hp) (Q:VK) (x3_:XK):Prop
 | mk (c:Int) (n:Nat) (h0_:vs=[.int c,.int n]) (h1_:n≤1000) (h2_:∀ (l:Addr) H',Same H H'→H l=none→H' l=some (.lst ((namesBy c n).map V.str))→Q (.ref l) H')
inductive spDeedsBy (K:PySem.W.Frag) (vs:List V) (H:Hp) (Q:VK) (x3_:XK):Prop
 | mk (c:Int) (h0_:vs=[.int c]) (h1_:∀ (t l m:Addr) H',Same H H'→H' t=some (.tup [.ref l,.ref m])→H' l=some (.lst ((namesBy (c/256) (manyOf c)).map V.str))→H' m=some (.lst ((freeBy c (namesBy (c/256) (manyOf c))).map V.str))→Q (.ref t) H')
section
variable {P:Program} {w:World} {K:PySem.W.Frag} {mg:Str→Option Value} {base:Heap}
noncomputable abbrev NB:List Str:=["_law_cell","_law_many","_law_some","_law_step"]
theorem scB:FnScope NB ["_law_cell","_law_many"] (defScope sNamesBy):=⟨rfl,rfl,rfl,by decide +kernel,rfl,by decide +kernel,by decide +kernel⟩
theorem ok_namesBy {f:Addr} {fd:FuncData} (F:Fun K "_law_names_by" "_law_names_by" sNamesBy f fd) (T:Txt K mg):FnOk P w K mg base CX0 1 f fd ["_law_cell","_law_many"] (spNamesBy K):=by
 refine F.ok scB (fun vs H Q E h=>?_) (fun cdv A outer s H vs Q E hr h=>?_)
 ·obtain ⟨c,n,rfl,_⟩:=h
  rfl
 ·obtain ⟨c,n,rfl,hn,q⟩:=h
  refine ⟨_,pss_cons (ps_set (i:=2) scB.nd rfl (Or.inr rfl) (pe_lst (pac pe_str (pac pe_str (pac pe_str (pac pe_str (pac pe_str (pac pe_str (pac pe_str (pac pe_str (pac pe_str (pac pe_str (pac pe_str (pac pe_str pa_nil))))))))))))))
   (pss_cons (ps_set (i:=3) scB.nd rfl (Or.inr rfl) (pe_ix ix_list (pe_lst (pac pe_int (pac pe_int (pac pe_int (pac pe_int pa_nil))))) (pe_op op_mod (pe_op op_fdiv (pv 0) pe_int) pe_int) (fun _ _=>rfl)))
   (pss_one (ps_ret (pe_comp (N':=["_law_k","_law_some","_law_cell","_law_step"]) (nown:=1) (js:=[2,0,3]) rfl
     ⟨rfl,by decide +kernel,by decide +kernel⟩ (blkNames (defScope sNamesBy) NB rfl rfl (by decide +kernel))
     ⟨fun _ _ _ _=>pg_name (i:=0) (show List.Nodup (["_law_k","_law_some","_law_cell","_law_step"]:List Str) by decide +kernel) rfl (Or.inl rfl) (.inr rfl),fun _ _ _ _=>pts_nil,
      fun _ _ _ _=>pe_ix (show IxR _ (rIxL K) from ix_list) (pv 1) (pe_op op_mod (pe_op op_add (pv 2) (pe_op op_mul (pv 3) (pv 0))) pe_int) (fun _ _=>rfl)⟩
     (pi_range1 rfl T.range (pac (pv 1) pa_nil)))))),?_⟩
  have sl:sizeLine=16777216:=sizeLine_eq
  have g4:=emod_in (c/12) (m:=4) (by decide)
  refine ⟨by show 12≤sizeLine; decide,fun p hp=>⟨by show 4≤sizeLine; decide,fun p2 hp2=>⟨_,rfl,_,_,rfl,rfl,⟨by decide,by decide⟩,_,_,rfl,rfl,(by show (0:Int)<4; decide),p2,_,_,V.int (stepOf c),rfl,rfl,SqL.of upd_same,atI_getD V.int [1,5,7,11] 1 g4.1 g4.2,?_⟩⟩⟩
  have n12:p≠p2:=ne_of_none upd_same hp2
  generalize hH2:upd (upd H p _) p2 _=H2
  have e2:H2 p=some (.lst (some12.map V.str)):=by rw [← hH2,upd_ne n12,upd_same]; rfl
  have s2:Same H H2:=fun b o e=>by
   have m1:b≠p:=ne_of_none e hp
   have m2:b≠p2:=ne_of_none (show (upd H p _) b=some o by rw [upd_ne m1]; exact e) hp2
   rw [← hH2,upd_ne m2,upd_ne m1]
   exact e
  refine ⟨_,rfl,n,rfl,by omega,by omega,fun D hD=>blk_range (n:=n) (fun i σ' H'=>∃ v,σ'=[v,some (.ref p),some (.int c),some (.int (stepOf c))]∧H' D=some (.lst ((namesBy c i).map V.str))∧Same H2 H') ?_ ?_ ?_⟩
  ·exact ⟨none,rfl,upd_same,fun b o e=>by rw [upd_ne (ne_of_none e hD)]; exact e⟩
  ·rintro i σ' H' hi ⟨v,rfl,hl',sm⟩
   have g12:=emod_in (c+stepOf c*(0+(i:Int))) (m:=12) (by decide)
   refine ⟨_,rfl,_,rfl,_,rfl,_,rfl,_,_,rfl,rfl,.inl ?_,_,_,rfl,rfl,_,_,rfl,rfl,(by show (0:Int)<12; decide),p,_,_,V.str (nameAt c i),rfl,rfl,SqL.of (sm p _ e2),?_,_,hl',?_,_,rfl,?_,?_⟩
   ·rcases stepOf_cases c with h | h | h | h <;> (rw [h]; exact ⟨by decide,by decide⟩)
   ·have h:=atI_getD V.str some12 "" g12.1 g12.2
    rw [h,Int.zero_add]
    rfl
   ·refine small1000 ?_
    rw [List.length_map]
    unfold namesBy
    rw [List.length_map,List.length_range]
    omega
   ·rw [upd_same]
    unfold namesBy
    rw [List.range_succ,List.map_append,List.map_append]
    rfl
   ·intro b o e
    rw [upd_ne (ne_of_none e hD)]
    exact sm b o e
  ·rintro σ' H' ⟨v,rfl,hl',sm⟩
   refine q D H' (s2.trans sm) ?_ hl'
   exact s2.free hD
noncomputable abbrev ND:List Str:=["_law_cell","_law_many","_law_names"]
theorem scD:FnScope ND ["_law_cell"] (defScope sDeedsBy):=⟨rfl,rfl,rfl,by decide +kernel,rfl,by decide +kernel,by decide +kernel⟩
theorem ok_deedsBy {f fM fB:Addr} {fd fdM fdB:FuncData} (F:Fun K "_law_deeds_by" "_law_deeds_by" sDeedsBy f fd) (T:Txt K mg)
  (FM:Fun K "_law_mixed" "_law_mixed" sMixed fM fdM) (bM:Binds K fdM ["_law_cell","_law_k"] []) (mM:mg "_law_mixed" = some (.ref fM))
  (FB:Fun K "_law_names_by" "_law_names_by" sNamesBy fB fdB) (bB:Binds K fdB ["_law_cell","_law_many"] []) (mB:mg "_law_names_by" = some (.ref fB)):FnOk P w K mg base CX0 2 f fd ["_law_cell"] (spDeedsBy K):=by
 have GM:FnOk P w K mg base CX0 1 fM fdM ["_law_cell","_law_k"] spMixed:=ok_mixed FM
 have GB:FnOk P w K mg base CX0 1 fB fdB ["_law_cell","_law_many"] (spNamesBy K):=ok_namesBy FB T
 refine F.ok scD (fun vs H Q E h=>?_) (fun cdv A outer s H vs Q E hr h=>?_)
 ·obtain ⟨c,rfl,_⟩:=h
  rfl
 ·obtain ⟨c,rfl,q⟩:=h
  refine ⟨_,pss_cons (ps_set (i:=1) scD.nd rfl (Or.inl rfl) (pe_ix ix_list (pe_lst (pac pe_int (pac pe_int (pac pe_int (pac pe_int (pac pe_int (pac pe_int (pac pe_int (pac pe_int pa_nil))))))))) (pe_op op_mod (pv 0) pe_int) (fun _ _=>rfl)))
   (pss_cut (fun σ H'=>σ=[some (.int c),some (.int (manyOf c)),none]∧Same H H')
    (ps_if (pt_cmpR op_eq (pe_op op_mod (pe_op op_fdiv (pv 0) pe_int) pe_int) pe_int (nomark _))
     (pss_one (ps_set (i:=1) scD.nd rfl (Or.inl rfl) (pe_op op_mod (pe_op op_fdiv (pv 0) pe_int) pe_int))) pss_nil)
   (pss_cons (ps_set (i:=2) scD.nd rfl (Or.inl rfl) (pe_call GB hr rfl mB FB.kp bB .nil pass0 (pac (pe_op op_fdiv (pv 0) pe_int) (pac (pv 1) pa_nil))))
   (pss_one (ps_ret (pe_tup (pac (pv 2) (pac (pe_comp (N':=["_law_k","_law_name","_law_cell"]) (nown:=2) (js:=[0]) rfl
     ⟨rfl,by decide +kernel,by decide +kernel⟩ (blkNames (defScope sDeedsBy) ND rfl rfl (by decide +kernel))
     ⟨fun _ _ _ _=>show PG _ _ (gTup K 2 (gCons (gName 0) (gCons (gName 1) gNil))) from pg_tup rfl (pgs_cons (pg_name (i:=0) (show List.Nodup (["_law_k","_law_name","_law_cell"]:List Str) by decide +kernel) rfl (Or.inl rfl) (.inr rfl)) (pgs_cons (pg_name (i:=1) (show List.Nodup (["_law_k","_law_name","_law_cell"]:List Str) by decide +kernel) rfl (Or.inl rfl) (.inr rfl)) pgs_nil)),
      fun _ _ _ _=>pts_one (pt_cmpR op_eq (pe_op op_mod (pe_call GM hr rfl mM FM.kp bM .nil pass0 (pac (pv 2) (pac (pv 0) pa_nil))) pe_int) pe_int (nomark _)),
      fun _ _ _ _=>pv 1⟩
     (pi_enum rfl T.enum (pac (pv 2) pa_nil))) pa_nil))))))),?_⟩
  have sl:sizeLine=16777216:=sizeLine_eq
  have g8:=emod_in c (m:=8) (by decide)
  refine ⟨by show 8≤sizeLine; decide,fun p hp=>⟨_,rfl,_,_,rfl,rfl,(by show (0:Int)<8; decide),p,_,_,V.int _,rfl,rfl,SqL.of upd_same,atI_getD V.int [2,3,3,4,4,5,6,12] 0 g8.1 g8.2,?_,?_⟩⟩
  ·have s1:∀ o,Same H (upd H p o):=fun o b u e=>by rw [upd_ne (ne_of_none e hp)]; exact e
   refine ⟨_,rfl,_,_,rfl,rfl,⟨by decide,by decide⟩,_,_,rfl,rfl,(by show (0:Int)<16; decide),rfl,_,rfl,ite2 (fun h1=>?_) (fun h1=>?_)⟩
   ·have e1:c/8%16=1:=by have:=of_decide_eq_true h1; exact V.int.inj this
    have g2:=emod_in (c/128) (m:=2) (by decide)
    refine ⟨_,rfl,_,_,rfl,rfl,⟨by decide,by decide⟩,_,_,rfl,rfl,(by show (0:Int)<2; decide),?_,s1 _⟩
    have e:((manyOf c:Nat):Int)=c/128%2:=by unfold manyOf; rw [if_pos e1]; omega
    rw [e]
    rfl
   ·have e1:¬ c/8%16=1:=fun z=>h1 (decide_eq_true (congrArg V.int z))
    refine ⟨?_,s1 _⟩
    have e:((manyOf c:Nat):Int)=([2,3,3,4,4,5,6,12]:List Int).getD (c%8).toNat 0:=by unfold manyOf; rw [if_neg e1]; exact (many_list c).2.symm
    rw [e]
    rfl
  ·rintro σ H1 ⟨rfl,s1⟩
   refine ⟨_,rfl,_,_,rfl,rfl,⟨by decide,by decide⟩,_,rfl,c/256,manyOf c,rfl,Nat.le_trans (manyOf_le c) (by decide),fun l H2 s2 hl hl2=>?_⟩
   generalize hss:namesBy (c/256) (manyOf c)=ss at *
   have hlen:ss.length=manyOf c:=by rw [← hss]; unfold namesBy; rw [List.length_map,List.length_range]
   have hle:=manyOf_le c
   refine ⟨_,rfl,_,rfl,l,rfl,⟨_,SqL.of hl2⟩,fun D hD=>blk_enum (xs:=ss.map V.str) (fun i σ' H'=>∃ v0 v1,σ'=[v0,v1,some (.int c)]∧H' D=some (.lst ((freeUp c ss i).map V.str))∧Same H2 H'∧(freeUp c ss i).length≤i) ?_ ?_ ?_ ?_⟩
   ·exact ⟨none,none,rfl,upd_same,fun b o e=>by rw [upd_ne (ne_of_none e hD)]; exact e,Nat.le_refl _⟩
   ·rintro i σ' H' _ ⟨v0,v1,rfl,h1,h2,h3⟩
    exact SqL.of (h2 l _ hl2)
   ·rintro i x σ' H' t hx ⟨v0,v1,rfl,h1,h2,h3⟩ ht
    rw [List.getElem?_map] at hx
    cases hz:ss[i]? with
    | none=>rw [hz] at hx; cases hx
    | some z=>
     rw [hz] at hx
     cases hx
     have hi:i<ss.length:=(List.getElem?_eq_some_iff.mp hz).1
     have nD:D≠t:=fun e=>by rw [e,ht] at h1; cases h1
     have sT:Same H2 (upd H' t (.tup [.int i,.str z])):=fun b o e=>by rw [upd_ne (ne_of_none (h2 b o e) ht)]; exact h2 b o e
     refine ⟨t,_,rfl,SqT.of upd_same,rfl,_,_,rfl,_,_,rfl,rfl,_,rfl,_,rfl,c,i,rfl,_,_,rfl,rfl,(by show (0:Int)<4; decide),rfl,_,rfl,ite2 (fun h4=>?_) (fun h4=>?_)⟩
     ·have e4:RW.mixed c i%4=1:=by have:=of_decide_eq_true h4; exact V.int.inj this
      have eu:freeUp c ss (i+1)=freeUp c ss i++[z]:=by
       unfold freeUp
       rw [List.range_succ,List.filterMap_append]
       simp [e4,hz]
      refine ⟨_,rfl,_,by rw [upd_ne nD]; exact h1,small1000 (by rw [List.length_map]; omega),some (.int i),some (.str z),rfl,?_,?_,?_⟩
      ·rw [upd_same,eu,List.map_append]
       rfl
      ·intro b o e
       rw [upd_ne (ne_of_none e hD)]
       exact sT b o e
      ·rw [eu,List.length_append]
       show _+1≤_
       omega
     ·have e4:¬ RW.mixed c i%4=1:=fun z=>h4 (decide_eq_true (congrArg V.int z))
      have eu:freeUp c ss (i+1)=freeUp c ss i:=by
       unfold freeUp
       rw [List.range_succ,List.filterMap_append]
       simp [e4]
      refine ⟨some (.int i),some (.str z),rfl,?_,sT,by rw [eu]; omega⟩
      rw [upd_ne nD,eu]
      exact h1
   ·rintro σ' H' ⟨v0,v1,rfl,h1,h2,h3⟩
    refine ⟨by show 2≤sizeLine; decide,fun t ht=>?_⟩
    rw [List.length_map] at h1
    have sT:∀ o,Same H' (upd H' t o):=fun o b u e=>by rw [upd_ne (ne_of_none e ht)]; exact e
    exact q t l D _ (((s1.trans s2).trans h2).trans (sT _)) upd_same (sT _ _ _ (h2 l _ hl2)) (sT _ _ _ h1)
end
end K14
namespace K14
open PySem L2 Ky
seal L2.PE L2.PS L2.PSs L2.PA L2.PT L2.PW L2.PG L2.PI L2.PTs L2.PO L2.OpR L2.IxR L2.CallR L2.MtM L2.MtR

theorem Bo_ve:bootBuiltins "ValueError" = some (.type "ValueError"):=by decide +kernel
theorem PE.weak {X:Cx} {e:Expr} {t t':TE} (h:PE X e t) (k:∀ σ H Q,t' σ H Q→t σ H Q):PE X e t':=by
 unfold PE at h ⊢
 exact fun pins s σ H Q I q=>h pins s σ H Q I (k σ H Q q)
noncomputable abbrev nms:List Str:=["NoName","NoDeed","NoRoom","TwiceTold","TooMany","NoRule","NoRow","NoHold","NoHolder","FreeDeed","NotNow","NoWarden","NoText","NoBook"]
noncomputable abbrev thrown:List Nat:=[1,2]
noncomputable def wordOf (ds:Nat→Addr) (C:Addr):Option Str:=if C=ds 1 then some "NoDeed" else if C=ds 2 then some "NoRoom" else none
theorem wordOf_at {ds:Nat→Addr} {C:Addr} {x:Str} (h:wordOf ds C=some x):∃ i∈thrown,C=ds i∧nms[i]?=some x:=by
 unfold wordOf at h
 by_cases h1:C=ds 1
 ·rw [if_pos h1] at h; cases h; exact ⟨1,by decide,h1,rfl⟩
 rw [if_neg h1] at h
 by_cases h2:C=ds 2
 ·rw [if_pos h2] at h; cases h; exact ⟨2,by decide,h2,rfl⟩
 rw [if_neg h2] at h
 cases h
noncomputable def EachIn (mg:Str→Option Value):List Str→List Addr→Prop
 | n::ns,a::as=>mg n=some (.ref a)∧EachIn mg ns as
 | [],_=>True
 | _,_=>False
theorem eachIn_at {mg:Str→Option Value}:∀ {ns:List Str} {as:List Addr},EachIn mg ns as→∀ (j:Nat) x,ns[j]?=some x→mg x=some (.ref (as.getD j 0))
 | [],_,_,j,x,h=>by simp at h
 | _::_,[],e,_,_,_=>e.elim
 | n::ns,a::as,e,0,x,h=>by
  have:n=x:=by simpa using h
  rw [← this]
  exact e.1
 | n::ns,a::as,e,j+1,x,h=>eachIn_at e.2 j x (by simpa using h)
structure Wd (K:PySem.W.Frag) (mg:Str→Option Value) (ds:Nat→Addr):Prop where
 m:∀ (j:Nat) x,nms[j]?=some x→mg x=some (.ref (ds j))
 ek:∀ i∈thrown,ExcK K (ds i)
 kit:∀ i∈thrown,∀ j,j<14→PySem.W.kitOne K (.ref (ds i)) (.ref (ds j))=some (decide (i=j))
 ve:∀ i∈thrown,PySem.W.kitOne K (.ref (ds i)) (.type "ValueError")=some true
 mve:mg "ValueError"=none
theorem Wd.ne {K:PySem.W.Frag} {mg:Str→Option Value} {ds:Nat→Addr} (W:Wd K mg ds) {i j:Nat} (hi:i∈thrown) (hj:j∈thrown) (h:i≠j):ds i≠ds j:=by
 intro z
 have hj14:j<14:=(show ∀ j∈thrown,j<14 by decide) j hj
 have h1:=W.kit i hi j hj14
 have h2:=W.kit j hj j hj14
 rw [z] at h1
 rw [h1] at h2
 rw [decide_eq_false h,decide_eq_true rfl] at h2
 cases h2
noncomputable def tWd (K:PySem.W.Frag) (W:Str) (d:Addr):TE:=fun σ H Q=>∃ e C b,σ[0]?=some (some (.ref e))∧IsExc H e C∧ExcK K C∧PySem.W.kitOne K (.ref C) (.ref d)=some b ∧
 ∀ p H',Same H H'→H' p=some (.lst ((if b then [W] else []).map V.str))→Q (.ref p) H'
noncomputable def upTo (i n:Nat):List Str:=(List.range n).filterMap fun j=>if i=j then nms[j]? else none
theorem upTo_succ (i n:Nat) {W:Str} (h:nms[n]?=some W):upTo i (n+1)=upTo i n++(if decide (i=n) then [W] else []):=by
 unfold upTo
 rw [List.range_succ,List.filterMap_append]
 by_cases e:i=n
 ·subst e; simp [h]
 ·simp [e]
theorem upTo_len (i n:Nat):(upTo i n).length≤n:=by
 unfold upTo
 exact Nat.le_trans (List.length_filterMap_le ..) (by rw [List.length_range]; exact Nat.le_refl _)
theorem wd_sm {H:Hp} {l p:Addr} {o o':HO} (hl:H l=none) (hp:(upd H l o) p=none):Same H (upd (upd H l o) p o'):=fun b u e=>by
 have m1:b≠l:=ne_of_none e hl
 have m2:b≠p:=ne_of_none (show (upd H l o) b=some u by rw [upd_ne m1]; exact e) hp
 rw [upd_ne m2,upd_ne m1]
 exact e
theorem pe_wd {X:Cx} {W:Str} {d:Addr} {j:Nat} {p1 p2 p3 p4 p5 p6 p7 p8 p9:Pos} (hN:X.N[0]?=some ("_law_e" : Str)) (hv:Vis X.env.scope ("_law_e" : Str)) (gi:Gl X "int") (mi:X.mg "int" = none) (gs:Gl X "isinstance") (ms:X.mg "isinstance" = none)
  (gW:Gl X W) (mW:X.mg W=some (.ref d)) (hd:(W==("__debug__" : Str))=false) :
  PE X (.BinOp (.List [.Constant (.str W) j p1] p2) .Mult (.Call (.Name "int" p3) [.Call (.Name "isinstance" p4) [.Name "_law_e" p5,.Name W p6] [] p7] [] p8) p9) (tWd X.K W d):=
 PE.weak (pe_op op_rep (pe_lst (pac pe_str pa_nil)) (pe_callTy call_int1 gi mi Bo.int (pac (pe_callB call_isiX gs ms Bo.isinstance (pac (pe_var hN hv) (pac (pe_glob (v:=.ref d) gW mW rfl hd) pa_nil)) (he:=starEach_plain rfl) (hpl:=rfl)) pa_nil) (he:=starEach_plain rfl) (hpl:=rfl)))
  (fun σ H Q ⟨e,C,b,h0,hx,ek,kt,q⟩=>⟨by show 1≤sizeLine; decide,fun l hl=>⟨_,h0,e,C,_,_,b,rfl,rel_ref,(show upd H l _ e=_ by rw [upd_ne (ne_of_none hx hl)]; exact hx),ek,kt,.inr ⟨_,rfl,l,_,_,rfl,rfl,upd_same,by cases b <;> decide,by cases b <;> decide,(by cases b <;> (show _≤16777216; simp)),fun p hp=>q p _ (wd_sm hl hp) (by rw [upd_same]; cases b <;> rfl)⟩⟩⟩)
noncomputable def wdJ (e:Addr) (H:Hp) (i n:Nat) (σ:St) (H':Hp):Prop:=∃ p,σ=[some (.ref e),some (.ref p)]∧Same H H'∧H' p=some (.lst ((upTo i n).map V.str))
section
variable {K:PySem.W.Frag} {mg:Str→Option Value} {ds:Nat→Addr} (W:Wd K mg ds) {i:Nat} (hi:i∈thrown) {e:Addr} {H:Hp} (hx:IsExc H e (ds i))
include W hi hx
theorem wd_first {D:Ends} {v:Option V}:tAsg (tOp rCat (tWd K "NoName" (ds 0)) (tWd K "NoDeed" (ds 1))) (gName 1) { D with nx:=wdJ e H i 2 } [some (.ref e),v] H:=by
 have ek:=W.ek i hi
 refine ⟨e,_,_,rfl,hx,ek,W.kit i hi 0 (by decide),fun p0 H0 s0 h0=>⟨e,_,_,rfl,s0 e _ hx,ek,W.kit i hi 1 (by decide),fun p1 H1 s1 h1=>⟨p0,p1,_,_,rfl,rfl,s1 _ _ h0,h1,?_,fun p hp=>⟨p,rfl,(s0.trans s1).trans (fun b u z=>by rw [upd_ne (ne_of_none z hp)]; exact z),?_⟩⟩⟩⟩
 ·have sl:sizeLine=16777216:=sizeLine_eq
  have:∀ (b:Bool) (x:Str),((if b then [x] else []).map V.str).length≤1:=fun b x=>by cases b <;> simp
  have a1:=this (decide (i=0)) "NoName"
  have a2:=this (decide (i=1)) "NoDeed"
  omega
 ·rw [upd_same,upTo_succ i 1 (W:="NoDeed") rfl,upTo_succ i 0 (W:="NoName") rfl,List.map_append,List.map_append]
  rfl
theorem wd_two {D:Ends} {n:Nat} {U U':Str} (hn:n+1<14) (h1:nms[n]?=some U) (h2:nms[n+1]?=some U') {σ:St} {H1:Hp} (J:wdJ e H i n σ H1) :
  tAsg (tOp rCat (tOp rCat (tVar 1) (tWd K U (ds n))) (tWd K U' (ds (n+1)))) (gName 1) { D with nx:=wdJ e H i (n+2) } σ H1:=by
 obtain ⟨p,rfl,sm,hp⟩:=J
 have ek:=W.ek i hi
 have sl:sizeLine=16777216:=sizeLine_eq
 have l1:∀ (b:Bool) (x:Str),((if b then [x] else []).map V.str).length≤1:=fun b x=>by cases b <;> simp
 have l2:=upTo_len i n
 refine ⟨_,rfl,e,_,_,rfl,sm e _ hx,ek,W.kit i hi n (by omega),fun pa Ha sa ha=>⟨p,pa,_,_,rfl,rfl,sa _ _ hp,ha,?_,fun pc hpc=>?_⟩⟩
 ·have:=l1 (decide (i=n)) U
  rw [List.length_map]
  omega
 have sc:Same Ha (upd Ha pc (.lst ((upTo i n).map V.str++(if decide (i=n) then [U] else []).map V.str))):=fun b u z=>by rw [upd_ne (ne_of_none z hpc)]; exact z
 refine ⟨e,_,_,rfl,sc e _ (sa e _ (sm e _ hx)),ek,W.kit i hi (n+1) hn,fun pb Hb sb hb=>⟨pc,pb,_,_,rfl,rfl,sb _ _ upd_same,hb,?_,fun pd hpd=>⟨pd,rfl,(((sm.trans sa).trans sc).trans sb).trans (fun b u z=>by rw [upd_ne (ne_of_none z hpd)]; exact z),?_⟩⟩⟩
 ·have a1:=l1 (decide (i=n)) U
  have a2:=l1 (decide (i=n+1)) U'
  rw [List.length_append,List.length_map]
  omega
 ·rw [upd_same,upTo_succ i (n+1) h2,upTo_succ i n h1,List.map_append,List.map_append]
end
section
variable {P:Program} {w:World} {K:PySem.W.Frag} {mg:Str→Option Value} {base:Heap}
noncomputable abbrev NW:List Str:=["_law_e","_law_words"]
theorem scWd:FnScope NW ["_law_e"] (defScope sWord):=⟨rfl,rfl,rfl,by decide +kernel,rfl,by decide +kernel,by decide +kernel⟩
theorem upTo_all:∀ i∈thrown,∀ x,nms[i]?=some x→upTo i 14=[x]:=by
 intro i hi x hx
 have:∀ i∈thrown,upTo i 14=(nms[i]?).toList:=by decide +kernel
 rw [this i hi,hx]
 rfl
theorem ok_word {f:Addr} {fd:FuncData} {ds:Nat→Addr} (F:Fun K "_law_word" "_law_word" sWord f fd) (T:Txt K mg) (W:Wd K mg ds):FnOkU P w K mg base 1 f fd ["_law_e"] (spWord (wordOf ds)):=by
 refine F.okU scWd (fun vs H Q E h=>?_) (fun cdv A outer s H vs Q hr h=>?_)
 ·obtain ⟨e,C,x,rfl,_⟩:=h
  rfl
 ·obtain ⟨e,C,x,rfl,hx,hw,q⟩:=h
  obtain ⟨i,hi,rfl,hnm⟩:=wordOf_at hw
  refine ⟨_,pss_cut (wdJ e H i 2) (ps_set (i:=1) scWd.nd rfl (Or.inl rfl) (pe_op op_cat (pe_wd (W:="NoName") rfl (Or.inl rfl) rfl T.int rfl T.isi rfl (W.m 0 _ rfl) (by decide)) (pe_wd (W:="NoDeed") rfl (Or.inl rfl) rfl T.int rfl T.isi rfl (W.m 1 _ rfl) (by decide))))
   (pss_cut (wdJ e H i 4) (ps_set (i:=1) scWd.nd rfl (Or.inl rfl) (pe_op op_cat (pe_op op_cat (pv 1) (pe_wd (W:="NoRoom") rfl (Or.inl rfl) rfl T.int rfl T.isi rfl (W.m 2 _ rfl) (by decide))) (pe_wd (W:="TwiceTold") rfl (Or.inl rfl) rfl T.int rfl T.isi rfl (W.m 3 _ rfl) (by decide))))
   (pss_cut (wdJ e H i 6) (ps_set (i:=1) scWd.nd rfl (Or.inl rfl) (pe_op op_cat (pe_op op_cat (pv 1) (pe_wd (W:="TooMany") rfl (Or.inl rfl) rfl T.int rfl T.isi rfl (W.m 4 _ rfl) (by decide))) (pe_wd (W:="NoRule") rfl (Or.inl rfl) rfl T.int rfl T.isi rfl (W.m 5 _ rfl) (by decide))))
   (pss_cut (wdJ e H i 8) (ps_set (i:=1) scWd.nd rfl (Or.inl rfl) (pe_op op_cat (pe_op op_cat (pv 1) (pe_wd (W:="NoRow") rfl (Or.inl rfl) rfl T.int rfl T.isi rfl (W.m 6 _ rfl) (by decide))) (pe_wd (W:="NoHold") rfl (Or.inl rfl) rfl T.int rfl T.isi rfl (W.m 7 _ rfl) (by decide))))
   (pss_cut (wdJ e H i 10) (ps_set (i:=1) scWd.nd rfl (Or.inl rfl) (pe_op op_cat (pe_op op_cat (pv 1) (pe_wd (W:="NoHolder") rfl (Or.inl rfl) rfl T.int rfl T.isi rfl (W.m 8 _ rfl) (by decide))) (pe_wd (W:="FreeDeed") rfl (Or.inl rfl) rfl T.int rfl T.isi rfl (W.m 9 _ rfl) (by decide))))
   (pss_cut (wdJ e H i 12) (ps_set (i:=1) scWd.nd rfl (Or.inl rfl) (pe_op op_cat (pe_op op_cat (pv 1) (pe_wd (W:="NotNow") rfl (Or.inl rfl) rfl T.int rfl T.isi rfl (W.m 10 _ rfl) (by decide))) (pe_wd (W:="NoWarden") rfl (Or.inl rfl) rfl T.int rfl T.isi rfl (W.m 11 _ rfl) (by decide))))
   (pss_cut (wdJ e H i 14) (ps_set (i:=1) scWd.nd rfl (Or.inl rfl) (pe_op op_cat (pe_op op_cat (pv 1) (pe_wd (W:="NoText") rfl (Or.inl rfl) rfl T.int rfl T.isi rfl (W.m 12 _ rfl) (by decide))) (pe_wd (W:="NoBook") rfl (Or.inl rfl) rfl T.int rfl T.isi rfl (W.m 13 _ rfl) (by decide))))
   (pss_cons (ps_if (pw_or (pt_cmpR op_ne (pe_callB call_len_seq (by rfl) T.len Bo.len (pac (pv 1) pa_nil)) pe_int (nomark _))
     (pw_or1 (pt_not (pt_val (pe_callB call_isiX (by rfl) T.isi Bo.isinstance (pac (pv 0) (pac (pe_bltn (v:=.ty "ValueError") (by rfl) W.mve Bo_ve rfl) pa_nil))))))).pt
    (pss_one (ps_ret pe_str)) pss_nil)
   (pss_one (ps_ret (pe_ix ix_list (pv 1) pe_int (fun _ _=>rfl))))))))))),?_⟩
  refine ⟨wd_first W hi hx,fun σ1 K1 J1=>⟨wd_two W hi hx (n:=2) (by decide) rfl rfl J1,fun σ2 K2 J2=>⟨wd_two W hi hx (n:=4) (by decide) rfl rfl J2,fun σ3 K3 J3=>⟨wd_two W hi hx (n:=6) (by decide) rfl rfl J3,fun σ4 K4 J4=>⟨wd_two W hi hx (n:=8) (by decide) rfl rfl J4,
   fun σ5 K5 J5=>⟨wd_two W hi hx (n:=10) (by decide) rfl rfl J5,fun σ6 K6 J6=>⟨wd_two W hi hx (n:=12) (by decide) rfl rfl J6,fun σ7 K7 J7=>?_⟩⟩⟩⟩⟩⟩⟩
  obtain ⟨p,rfl,sm,hp⟩:=J7
  rw [upTo_all i hi x hnm] at hp
  exact ⟨_,rfl,p,_,rfl,.inl (SqL.of hp),rfl,_,rfl,iteF ⟨_,rfl,e,_,_,_,_,rfl,rel_ty,sm e _ hx,W.ek i hi,W.ve _ hi,_,rfl,iteF ⟨_,rfl,p,_,_,_,rfl,rfl,SqL.of hp,rfl,q K7 sm⟩⟩⟩
end
end K14
namespace K14
open PySem L2 Ky
seal L2.PE L2.PS L2.PSs L2.PA L2.PT L2.PW L2.PG L2.PI L2.PTs L2.PO L2.OpR L2.IxR L2.CallR L2.MtM L2.MtR
theorem lt_anti:∀ x y:List Nat,PySem.Spec.ltCps x y=false→PySem.Spec.ltCps y x=false→x=y
 | [],[],_,_=>rfl
 | [],_::_,h,_=>by simp [PySem.Spec.ltCps] at h
 | _::_,[],_,h=>by simp [PySem.Spec.ltCps] at h
 | a::r,b::t,h,h'=>by
  simp only [PySem.Spec.ltCps,Bool.or_eq_false_iff,decide_eq_false_iff_not,Bool.and_eq_false_iff,beq_eq_false_iff_ne] at h h'
  have e:a=b:=by omega
  subst e
  have h1:PySem.Spec.ltCps r t=false:=by rcases h.2 with z | z; exact absurd rfl z; exact z
  have h2:PySem.Spec.ltCps t r=false:=by rcases h'.2 with z | z; exact absurd rfl z; exact z
  rw [lt_anti r t h1 h2]
theorem le_tr:∀ x y z:List Nat,PySem.Spec.ltCps y x=false→PySem.Spec.ltCps z y=false→PySem.Spec.ltCps z x=false
 | [],_,[],_,_=>rfl
 | [],_,_::_,_,_=>rfl
 | _::_,[],_,h,_=>by simp [PySem.Spec.ltCps] at h
 | _::_,_::_,[],_,h=>by simp [PySem.Spec.ltCps] at h
 | a::r,b::t,c::u,h,h'=>by
  simp only [PySem.Spec.ltCps,Bool.or_eq_false_iff,decide_eq_false_iff_not,Bool.and_eq_false_iff,beq_eq_false_iff_ne] at h h' ⊢
  refine ⟨by omega,?_⟩
  by_cases e:c=a
  ·refine .inr ?_
   have h1:PySem.Spec.ltCps t r=false:=by rcases h.2 with z | z; exact absurd (by omega) z; exact z
   have h2:PySem.Spec.ltCps u t=false:=by rcases h'.2 with z | z; exact absurd (by omega) z; exact z
   exact le_tr r t u h1 h2
  ·exact .inl e
noncomputable abbrev leS (a b:Str):Prop:=PySem.Spec.ltCps b.cps.toList a.cps.toList=false
theorem rising_all:∀ (r:List Str) (p:Str),PyProof.Rows.risingS p r=true→(∀ z∈r,leS p z)∧r.Pairwise leS
 | [],_,_=>⟨fun _ h=>absurd h (by simp),List.Pairwise.nil⟩
 | x::r,p,h=>by
  simp only [PyProof.Rows.risingS,Bool.and_eq_true,Bool.not_eq_true'] at h
  obtain ⟨h1,h2⟩:=rising_all r x h.2
  refine ⟨fun z hz=>?_,.cons h1 h2⟩
  rcases List.mem_cons.mp hz with rfl | hz
  ·exact h.1
  ·exact le_tr _ _ _ h.1 (h1 z hz)
theorem sorted_pw {l:List Str} (h:PyProof.Rows.sortedS l=true):l.Pairwise leS:=by
 cases l with
 | nil=>exact .nil
 | cons x r=>
  obtain ⟨h1,h2⟩:=rising_all r x h
  exact .cons h1 h2
theorem perm_eq:∀ (l m:List Str),l.Perm m→l.Pairwise leS→m.Pairwise leS→l=m
 | [],m,p,_,_=>(List.Perm.nil_eq p)
 | a::r,[],p,_,_=>by have:=p.length_eq; simp at this
 | a::r,b::t,p,h,h'=>by
  have e:a=b:=by
   by_cases e:a=b
   ·exact e
   ·have h1:a∈t:=by
     rcases List.mem_cons.mp (p.mem_iff.mp (List.mem_cons_self ..)) with z | z
     ·exact absurd z e
     ·exact z
    have h2:b∈r:=by
     rcases List.mem_cons.mp (p.mem_iff.mpr (List.mem_cons_self ..)) with z | z
     ·exact absurd z.symm e
     ·exact z
    have g1:leS a b:=List.rel_of_pairwise_cons h h2
    have g2:leS b a:=List.rel_of_pairwise_cons h' h1
    have g:=lt_anti _ _ g2 g1
    obtain ⟨⟨x⟩⟩:=a
    obtain ⟨⟨y⟩⟩:=b
    have g':x=y:=g
    rw [g']
  subst e
  rw [perm_eq r t p.cons_inv (List.Pairwise.of_cons h) (List.Pairwise.of_cons h')]
theorem sorted_one {l m s:List Str} (p:l.Perm s) (q:m.Perm s) (h:PyProof.Rows.sortedS l=true) (h':PyProof.Rows.sortedS m=true):l=m:=
 perm_eq l m (p.trans q.symm) (sorted_pw h) (sorted_pw h')
noncomputable def nameR (r s k:Nat):Str:=some12.getD ((r+s*k)%12) ""
theorem modR (c:Int) (m:Nat):((c+(m:Int))%12).toNat=((c%12).toNat+m)%12:=by
 have h:=emod_in c (m:=12) (by decide)
 have e:c%12=((c%12).toNat:Int):=(Int.toNat_of_nonneg h.1).symm
 generalize (c%12).toNat=r at e
 rw [← Int.emod_add_emod,e,← Int.natCast_add]
 exact congrArg Int.toNat (Int.natCast_emod (r+m) 12).symm
theorem nameAt_R (c:Int) (k:Nat):nameAt c k=nameR (c%12).toNat (stepOf c).toNat k:=by
 unfold nameAt nameR
 congr 1
 rcases stepOf_cases c with e | e | e | e
 ·rw [e]
  exact modR c (1*k)
 ·rw [e]
  exact modR c (5*k)
 ·rw [e]
  exact modR c (7*k)
 ·rw [e]
  exact modR c (11*k)
theorem len1 {α:Type} {p:List α→Prop} (h:∀ a,p [a]):∀ us:List α,us.length=1→p us
 | [a],_=>h a
theorem len2 {α:Type} {p:List α→Prop} (h:∀ a b,p [a,b]):∀ us:List α,us.length=2→p us
 | [a,b],_=>h a b
theorem len3 {α:Type} {p:List α→Prop} (h:∀ a b c,p [a,b,c]):∀ us:List α,us.length=3→p us
 | [a,b,c],_=>h a b c
theorem nodupR:∀ r,r<12→∀ s∈([1,5,7,11]:List Nat),((List.range 12).map (nameR r s)).Nodup:=by decide +kernel
theorem some_names:∀ z∈some12,isNameS z=true:=by decide +kernel
theorem nameAt_mem (c:Int) (k:Nat):nameAt c k∈some12:=by
 unfold nameAt
 have h:=emod_in (c+stepOf c*k) (m:=12) (by decide)
 have hl:((c+stepOf c*k)%12).toNat<some12.length:=by show _<12; omega
 rw [List.getD_eq_getElem?_getD,List.getElem?_eq_getElem hl]
 exact List.getElem_mem hl
theorem namesBy_mem {c:Int} {n:Nat} {z:Str} (h:z∈namesBy c n):z∈some12:=by
 obtain ⟨k,_,rfl⟩:=List.mem_map.mp h
 exact nameAt_mem c k
theorem namesBy_nodup (c:Int) {n:Nat} (hn:n≤12):(namesBy c n).Nodup:=by
 have h:=emod_in c (m:=12) (by decide)
 have hs:(stepOf c).toNat∈([1,5,7,11]:List Nat):=by rcases stepOf_cases c with e | e | e | e <;> rw [e] <;> decide
 have hN:=nodupR (c%12).toNat (by omega) _ hs
 have e:namesBy c n=((List.range 12).map (nameR (c%12).toNat (stepOf c).toNat)).take n:=by
  unfold namesBy
  rw [← List.map_take,List.take_range,Nat.min_eq_left hn]
  exact List.map_congr_left fun k _=>nameAt_R c k
 rw [e]
 exact hN.sublist (List.take_sublist n _)
theorem scan_pre:∀ (pre seen suf:List Str),(∀ z∈pre,isNameS z=true)→(seen++pre).Nodup→scan seen (pre++suf)=scan (seen++pre) suf
 | [],seen,suf,_,_=>by simp
 | z::r,seen,suf,h,hn=>by
  show (if isNameS z=true then (if z∈seen then some Why.twice else scan (seen++[z]) (r++suf)) else some .noName)=_
  have hz:z∉seen:=fun m=>by
   have:=(List.nodup_append.mp hn).2.2 z m z (List.mem_cons_self ..)
   exact this rfl
  rw [if_pos (h z (List.mem_cons_self ..)),if_neg hz,scan_pre r (seen++[z]) suf (fun y hy=>h y (List.mem_cons_of_mem _ hy)) (by simpa using hn)]
  simp
theorem refused_ok {ss:List Str} (h:ss.length≤12) (hn:∀ z∈ss,isNameS z=true) (hd:ss.Nodup):refused ss=none:=by
 unfold refused
 rw [if_neg (by omega)]
 have:=scan_pre ss [] [] hn (by simpa using hd)
 rw [List.append_nil] at this
 rw [this]
 rfl
theorem freeBy_sub {c:Int} {ss:List Str} {z:Str} (h:z∈freeBy c ss):z∈ss:=by
 unfold freeBy at h
 obtain ⟨k,_,e⟩:=List.mem_filterMap.mp h
 split at e
 ·exact List.mem_of_getElem? e
 ·cases e
theorem freeBy_len (c:Int) (ss:List Str):(freeBy c ss).length≤ss.length:=by
 unfold freeBy
 exact Nat.le_trans (List.length_filterMap_le ..) (by rw [List.length_range]; exact Nat.le_refl _)
theorem deeds_ok {ss fs:List Str} (h:ss.length≤12) (hn:∀ z∈ss,isNameS z=true) (hd:ss.Nodup) (hf:∀ z∈fs,z∈ss):deedsErr ss fs=none:=by
 unfold deedsErr
 rw [refused_ok h hn hd]
 exact if_pos (List.all_eq_true.mpr fun z hz=>by rw [hn z (hf z hz),decide_eq_true (hf z hz)]; rfl)
end K14
namespace K14
open PySem L2 Ky
seal L2.PE L2.PS L2.PSs L2.PA L2.PT L2.PW L2.PG L2.PI L2.PTs L2.PO L2.OpR L2.IxR L2.CallR L2.MtM L2.MtR
unseal L2.MtM L2.MtR
section
variable {P:Program} {w:World} {K:PySem.W.Frag} {mg:Str→Option Value} {base:Heap}
theorem scNR:FnScope ["begin","ends","doors","rooms","room","deed","far"] ["begin","ends","doors"] (defScope sNamed):=⟨rfl,rfl,rfl,by decide +kernel,rfl,by decide +kernel,by decide +kernel⟩
theorem ok_named {f:Addr} {fd:FuncData} (F:Fun K "named_rooms" "named_rooms" sNamed f fd):FnOk P w K mg base CX0 1 f fd ["begin","ends","doors"] spNamed:=by
 refine F.ok scNR (fun vs H Q E h=>?_) (fun cdv A outer s H vs Q E hr h=>?_)
 ·obtain ⟨b,e,d,es,ds,rfl,_⟩:=h
  rfl
 ·obtain ⟨b,e,d,es,ds,rfl,hE,hD,hle,hld,q⟩:=h
  refine ⟨_,pss_cons (ps_set (i:=3) scNR.nd rfl (Or.inl rfl) (pe_lst (pac (pv 0) pa_nil)))
   (pss_cons (ps_expr (pe_bm PySem.F.plainAttrs_list PySem.F.slot_list_extend PySem.F.type_list_extend mt_extend (pv 3) (pac (pv 1) pa_nil)))
   (pss_cons (ps_for PassesOwn.never rfl (pi_list (pv 2)) (pg_tup rfl (pgs_cons (pg_name (i:=4) scNR.nd rfl (Or.inl rfl)) (pgs_cons (pg_name (i:=5) scNR.nd rfl (Or.inl rfl)) (pgs_cons (pg_name (i:=6) scNR.nd rfl (Or.inl rfl)) pgs_nil))))
    (pss_cons (ps_expr (pe_bm PySem.F.plainAttrs_list PySem.F.slot_list_append PySem.F.type_list_append mt_append (pv 3) (pac (pv 4) pa_nil)))
    (pss_one (ps_expr (pe_bm PySem.F.plainAttrs_list PySem.F.slot_list_append PySem.F.type_list_append mt_append (pv 3) (pac (pv 6) pa_nil))))))
   (pss_one (ps_ret (pv 3))))),?_⟩
  obtain ⟨ts,hd,htl,htt⟩:=hD.ex
  refine ⟨_,rfl,by show 1≤sizeLine; decide,fun p hp=>⟨_,rfl,.inl ⟨rfl,_,SqL.of upd_same⟩,_,rfl,p,e,_,_,rfl,rfl,upd_same,smu hp _ _ hE,small2 (by rw [List.length_map]; show 1+_≤_; omega),?_⟩⟩
  have s0:Same H _:=smu (o:=.lst [.str b]) hp
  have s1:∀ ys,Same H (upd (upd H p (.lst [.str b])) p (.lst ys)):=fun ys c o h=>by rw [upd_ne (ne_of_none h hp)]; exact s0 c o h
  refine ⟨_,rfl,d,rfl,⟨_,SqL.of (s1 _ _ _ hd)⟩,?_⟩
  refine for_list (xs:=ts.map V.ref) (fun i σ H'=>∃ x4 x5 x6,σ=[some (.str b),some (.ref e),some (.ref d),some (.ref p),x4,x5,x6]∧H' p=some (.lst ((b::es++doorRooms (ds.take i)).map V.str))∧Same H H') ?_ ?_ ?_ ?_
  ·refine ⟨none,none,none,rfl,?_,s1 _⟩
   rw [upd_same]
   show some (HO.lst ([V.str b]++es.map V.str))=some (HO.lst ((b::es++[]).map V.str))
   rw [List.append_nil]
   rfl
  ·rintro i σ H' _ ⟨x4,x5,x6,rfl,h1,h2⟩
   exact SqL.of (h2 _ _ hd)
  ·rintro i x σ H' hx ⟨x4,x5,x6,rfl,h1,h2⟩
   rw [List.getElem?_map] at hx
   cases ht:ts[i]? with
   | none=>rw [ht] at hx; cases hx
   | some t=>
    rw [ht] at hx
    cases hx
    have hi:i<ds.length:=by rw [← htl]; exact (List.getElem?_eq_some_iff.mp ht).1
    have hz:ds[i]?=some ds[i]:=List.getElem?_eq_getElem hi
    generalize ds[i]=z at hz
    have e1:=doorRooms_take hz
    have hl:(doorRooms (ds.take i)).length≤2000:=by rw [doorRooms_len,List.length_take]; omega
    refine ⟨t,_,rfl,SqT.of (h2 _ _ (htt i t z ht hz)),rfl,_,_,rfl,_,_,rfl,_,_,rfl,rfl,?_⟩
    refine ⟨_,rfl,.inl ⟨rfl,_,SqL.of h1⟩,_,rfl,p,_,_,rfl,rfl,h1,?_,?_⟩
    ·rw [List.length_map,List.length_append,List.length_cons]
     exact Nat.lt_of_le_of_lt (m:=3001) (by omega) (by decide)
    refine ⟨_,rfl,.inl ⟨rfl,_,SqL.of upd_same⟩,_,rfl,p,_,_,rfl,rfl,upd_same,?_,?_⟩
    ·rw [List.length_append,List.length_map,List.length_append,List.length_cons]
     exact Nat.lt_of_le_of_lt (m:=3002) (by show _+1≤_; omega) (by decide)
    refine ⟨_,_,_,rfl,?_,fun c o h=>?_⟩
    ·rw [upd_same,e1]
     simp
    ·rw [upd_ne (ne_of_none h hp),upd_ne (ne_of_none h hp)]
     exact h2 c o h
  ·rintro σ H' ⟨x4,x5,x6,rfl,h1,h2⟩
   rw [List.length_map,htl,List.take_length] at h1
   exact ⟨_,rfl,q p H' h2 hp h1⟩
end
theorem scRR:FnScope ["rooms","room"] ["rooms"] (defScope sRefRooms):=⟨rfl,rfl,rfl,by decide +kernel,rfl,by decide +kernel,by decide +kernel⟩
section
variable {P:Program} {w:World} {K:PySem.W.Frag} {mg:Str→Option Value} {base:Heap}
theorem ok_refRooms {f fN:Addr} {fd fdN:FuncData} {cl:Why→Addr} (F:Fun K "refuse_rooms" "refuse_rooms" sRefRooms f fd) (T:Txt K mg) (Ex:Exc K mg cl)
  (FN:Fun K "is_name" "is_name" sName fN fdN) (bN:Binds K fdN ["thing"] []) (mN:mg "is_name" = some (.ref fN)) :
  FnOk P w K mg base (CXE P w) 2 f fd ["rooms"] (spRefRooms K cl):=by
 have GN:FnOk P w K mg base CX0 1 fN fdN ["thing"] (spName K):=ok_name FN T
 refine okE F scRR (fun vs H Q E h=>?_) (fun cdv A outer s H vs Q E hr h D=>?_)
 ·obtain ⟨a,ss,rfl,_⟩:=h
  rfl
 ·obtain ⟨a,ss,rfl,hS,hsh,q⟩:=h
  refine ⟨_,pss_one (ps_for PassesOwn.leaving rfl (pi_list (pv 0)) (pg_name (i:=1) scRR.nd rfl (Or.inl rfl))
    (pss_one (ps_if (pt_not (pt_val (pe_call GN hr rfl mN FN.kp bN .nil pass0 (pac (pv 1) pa_nil)))) (pss_one (ps_raise D rfl (by rfl) Ex.nn (Ex.x .noName) (pac pe_str pa_nil))) pss_nil))),?_⟩
  refine ⟨_,rfl,a,rfl,⟨_,hS⟩,?_⟩
  refine for_list (xs:=ss.map V.str) (fun i σ H'=>∃ nv,σ=[some (.ref a),nv]∧Same H H'∧(ss.take i).all isNameS=true) ?_ ?_ ?_ ?_
  ·exact ⟨none,rfl,Same.refl H,rfl⟩
  ·rintro i σ H' _ ⟨nv,rfl,h1,h2⟩
   exact h1.seq hS
  ·rintro i x σ H' hx ⟨nv,rfl,h1,h2⟩
   rw [List.getElem?_map] at hx
   cases hz:ss[i]? with
   | none=>rw [hz] at hx; cases hx
   | some z=>
    rw [hz] at hx
    cases hx
    obtain ⟨hi,hzi⟩:=List.getElem?_eq_some_iff.mp hz
    have hzl:z.length≤1000:=hsh z (List.mem_of_getElem? hz)
    refine ⟨_,rfl,.str z,rfl,.inl ⟨z,rfl,Nat.le_of_lt (small1000 hzl),fun H2 sm2=>⟨_,rfl,?_⟩⟩⟩
    by_cases hn:isNameS z=true
    ·rw [hn]
     refine iteF ⟨some (.str z),rfl,h1.trans sm2,?_⟩
     rw [List.take_succ,hz,List.all_append,h2]
     show (true&&(isNameS z&&true))=true
     rw [hn]
     rfl
    ·rw [Bool.eq_false_iff.mpr hn]
     refine iteT ⟨by show 1≤sizeLine; decide,?_⟩
     have:=q H2 (h1.trans sm2)
     rw [badRooms_drop h2,List.drop_eq_getElem_cons hi,hzi] at this
     unfold badRooms at this
     rw [if_neg (by rw [List.all_cons,Bool.eq_false_iff.mpr hn]; exact Bool.false_ne_true)] at this
     exact this
  ·rintro σ H' ⟨nv,rfl,h1,h2⟩
   rw [List.length_map,List.take_length] at h2
   have:=q H' h1
   unfold badRooms at this
   rw [if_pos h2] at this
   exact this
end
theorem scLd:FnScope ["rooms","doors","leads","room","deed","far"] ["rooms","doors"] (defScope sLeads):=⟨rfl,rfl,rfl,by decide +kernel,rfl,by decide +kernel,by decide +kernel⟩
section
variable {P:Program} {w:World} {K:PySem.W.Frag} {mg:Str→Option Value} {base:Heap}
theorem ok_leads {f:Addr} {fd:FuncData} (F:Fun K "leads_of" "leads_of" sLeads f fd):FnOk P w K mg base CX0 1 f fd ["rooms","doors"] (spLeads K):=by
 refine F.ok scLd (fun vs H Q E h=>?_) (fun cdv A outer s H vs Q E hr h=>?_)
 ·obtain ⟨a,d,rs,ds,rfl,_⟩:=h
  rfl
 ·obtain ⟨a,d,rs,ds,rfl,hR,hD,hlr,hld,hin,hap,q⟩:=h
  have hu:=hu_of hr
  refine ⟨_,pss_cons (ps_set (i:=2) scLd.nd rfl (Or.inl rfl) pe_dnewK)
   (pss_cons (ps_for PassesOwn.never rfl (pi_list (pv 0)) (pg_name (i:=3) scLd.nd rfl (Or.inl rfl)) (pss_one (ps_dput hu (pv 2) (pv 3) pe_dnewK rfl)))
   (pss_cons (ps_for PassesOwn.never rfl (pi_list (pv 1)) (pg_tup rfl (pgs_cons (pg_name (i:=3) scLd.nd rfl (Or.inl rfl)) (pgs_cons (pg_name (i:=4) scLd.nd rfl (Or.inl rfl)) (pgs_cons (pg_name (i:=5) scLd.nd rfl (Or.inl rfl)) pgs_nil))))
    (pss_cons (ps_if (pt_cmp (pc_din hu (pv 4) (pe_dget hu (pv 2) (pv 3) (fun _ _=>rfl)))) (pss_one ps_dead) pss_nil)
    (pss_one (ps_dput hu (pe_dget hu (pv 2) (pv 3) (fun _ _=>rfl)) (pv 4) (pv 5) rfl))))
   (pss_one (ps_ret (pv 2))))),?_⟩
  obtain ⟨ts,hd,htl,htt⟩:=hD.ex
  intro l hl
  have s0:Same H (upd H l (.dK [])):=smu hl
  refine ⟨_,rfl,a,rfl,⟨_,s0.seq hR⟩,?_⟩
  refine for_list (xs:=rs.map V.str) (fun i σ H'=>∃ x3 kvs g,σ=[some (.ref a),some (.ref d),some (.ref l),x3,none,none]∧LeadsAt H' l (rs.take i) [] kvs g∧(∀ z∈rs.take i,H (g z)=none)∧kvs.length≤i∧Same H H') ?_ ?_ ?_ ?_
  ·exact ⟨none,[],fun _=>0,rfl,⟨upd_same,rfl,fun z hz=>(nomatch hz),fun z hz=>(nomatch hz),fun z hz=>(nomatch hz),fun z hz=>(nomatch hz)⟩,fun z hz=>(nomatch hz),Nat.le_refl _,s0⟩
  ·rintro i σ H' _ ⟨x3,kvs,g,rfl,L,hg,hk,sm⟩
   exact sm.seq hR
  ·rintro i x σ H' hx ⟨x3,kvs,g,rfl,L,hg,hk,sm⟩
   rw [List.getElem?_map] at hx
   cases hz:rs[i]? with
   | none=>rw [hz] at hx; cases hx
   | some z=>
    rw [hz] at hx
    cases hx
    have hi:i<rs.length:=(List.getElem?_eq_some_iff.mp hz).1
    have et:rs.take (i+1)=rs.take i++[z]:=by rw [List.take_succ,hz]; rfl
    intro c hc
    have cl:c≠l:=fun e=>by rw [e,L.dk] at hc; cases hc
    have hcH:H c=none:=by
     cases e:H c with
     | none=>rfl
     | some o=>rw [sm _ _ e] at hc; cases hc
    refine ⟨_,rfl,_,rfl,l,_,rfl,DPut.k (k:=Sum.inr z) (by rw [upd_ne (Ne.symm cl)]; exact L.dk) (small1000 (by omega)),?_⟩
    refine ⟨_,_,_,rfl,by rw [et]; exact L.more hc z,fun y hy=>?_,?_,fun b o e=>?_⟩
    ·rw [et] at hy
     by_cases e:y=z
     ·show H (if y=z then c else g y)=none
      rw [if_pos e]; exact hcH
     ·show H (if y=z then c else g y)=none
      rw [if_neg e]
      exact hg y ((List.mem_append.mp hy).resolve_right fun w=>e (List.mem_singleton.mp w))
    ·exact Nat.le_trans (length_putK _ _ _) (Nat.succ_le_succ hk)
    ·rw [upd_ne (ne_of_none e hl),upd_ne (ne_of_none e hcH)]
     exact sm b o e
  ·rintro σ H1 ⟨x3,kvs,g,rfl,L,hg,hk,sm⟩
   rw [List.length_map,List.take_length] at L hg
   refine ⟨_,rfl,d,rfl,⟨_,SqL.of (sm _ _ hd)⟩,?_⟩
   refine for_list (xs:=ts.map V.ref) (fun i σ H'=>∃ x3 x4 x5,σ=[some (.ref a),some (.ref d),some (.ref l),x3,x4,x5]∧LeadsAt H' l rs (ds.take i) kvs g∧Same H H') ?_ ?_ ?_ ?_
   ·exact ⟨_,_,_,rfl,L,sm⟩
   ·rintro i σ H' _ ⟨x3,x4,x5,rfl,h1,h2⟩
    exact SqL.of (h2 _ _ hd)
   ·rintro i x σ H' hx ⟨x3,x4,x5,rfl,L',sm'⟩
    rw [List.getElem?_map] at hx
    cases ht:ts[i]? with
    | none=>rw [ht] at hx; cases hx
    | some t=>
     rw [ht] at hx
     cases hx
     have hi:i<ds.length:=by rw [← htl]; exact (List.getElem?_eq_some_iff.mp ht).1
     have hz:ds[i]?=some ds[i]:=List.getElem?_eq_getElem hi
     generalize ds[i]=z at hz
     have zin:=hin z (List.mem_of_getElem? hz)
     have gv:DGet H' l (.str z.1) (some (.ref (g z.1))):=by
      have:=DGet.k (k:=Sum.inr z.1) L'.dk
      rw [L'.val _ zin] at this
      exact this
     have gi:=DGet.k (k:=Sum.inr z.2.1) (L'.dd _ zin)
     rw [inn_none (hap.at hz)] at gi
     refine ⟨t,_,rfl,SqT.of (sm' _ _ (htt i t z ht hz)),rfl,_,_,rfl,_,_,rfl,_,_,rfl,rfl,?_⟩
     refine ⟨_,rfl,_,rfl,_,rfl,l,_,rfl,gv,g z.1,none,rfl,gi,_,rfl,iteF ?_⟩
     refine ⟨_,rfl,_,rfl,_,rfl,l,_,rfl,gv,_,rfl,g z.1,_,rfl,DPut.k (k:=Sum.inr z.2.1) (L'.dd _ zin) (small1000 (Nat.le_trans (inn_len _ _) (by rw [List.length_take]; omega))),?_⟩
     refine ⟨_,_,_,rfl,L'.door hz zin hap,fun b o e=>?_⟩
     rw [upd_ne (ne_of_none e (hg _ zin))]
     exact sm' b o e
   ·rintro σ H' ⟨x3,x4,x5,rfl,h1,h2⟩
    rw [List.length_map,htl,List.take_length] at h1
    exact ⟨_,rfl,q l kvs g H' h2 hl hg h1⟩
end
end K14
namespace K14
open PySem L2 Ky
seal L2.PE L2.PS L2.PSs L2.PA L2.PT L2.PW L2.PG L2.PI L2.PTs L2.PO L2.OpR L2.IxR L2.CallR L2.MtM L2.MtR
unseal L2.MtM L2.MtR
noncomputable abbrev NMI:List Str:=["self","deeds","begin","ends","doors","more","rooms","known"]
theorem scMI:FnScope NMI ["self","deeds","begin","ends","doors","more"] (defScope mInit):=⟨rfl,rfl,rfl,by decide +kernel,rfl,by decide +kernel,by decide +kernel⟩
section
variable {P:Program} {w:World} {K:PySem.W.Frag} {mg:Str→Option Value} {base:Heap}
theorem ok_mInit {f fN fR fL fK fQ C CM:Addr} {fd fdN fdR fdL fdK fdQ:FuncData} {cl:Why→Addr} (F:FunD K "__init__" "Machine.__init__" mInit f fd) (T:Txt K mg) (DC:DCls K C) (MC:MCls K CM)
  (mMR:∃ t,mg "MOST_ROOMS"=some (.int 60 t))
  (GN:FnOk P w K mg base CX0 1 fN fdN ["begin","ends","doors"] spNamed) (kN:PySem.W.keepIn K (.ref fN)=true) (bN:Binds K fdN ["begin","ends","doors"] []) (mN:mg "named_rooms" = some (.ref fN))
  (GR:FnOk P w K mg base (CXE P w) 2 fR fdR ["rooms"] (spRefRooms K cl)) (kR:PySem.W.keepIn K (.ref fR)=true) (bR:Binds K fdR ["rooms"] []) (mR:mg "refuse_rooms" = some (.ref fR))
  (GL:FnOk P w K mg base CX0 1 fL fdL ["rooms","doors"] (spLeads K)) (kL:PySem.W.keepIn K (.ref fL)=true) (bL:Binds K fdL ["rooms","doors"] []) (mL:mg "leads_of" = some (.ref fL))
  (GK:FnOk P w K mg base CX0 1 fK fdK ["names"] (spMarks K)) (kK:PySem.W.keepIn K (.ref fK)=true) (bK:Binds K fdK ["names"] []) (mK:mg "marks_of" = some (.ref fK))
  (GQ:FnOk P w K mg base (CXE P w) 3 fQ fdQ ["self","row"] (spRequire K C cl)) (bQ:Binds K fdQ ["self","row"] []) (mQ:Meth K C "require" fQ) :
  FnOk P w K mg base (CXE P w) 4 f fd ["self","deeds","begin","ends","doors","more"] (spMInit K C CM):=by
 obtain ⟨tr,mMR⟩:=mMR
 refine okED F scMI (fun vs H Q E h=>?_) (fun cdv A outer s H vs Q E hr h D=>?_)
 ·obtain ⟨x,dd,e,d,dx,b,y,es,ms,ds,wk,rfl,_⟩:=h
  rfl
 ·obtain ⟨x,dd,e,d,dx,b,y,es,ms,ds,wk,rfl,hx,hW,hE,hD,hM,⟨hle,hld,hlm⟩,hnm,hgd,hsh,hap,h60,q⟩:=h
  have hr1:Room 1 _:=hr.mono (by decide)
  have hr2:Room 2 _:=hr.mono (by decide)
  refine ⟨_,pss_cons (ps_set (i:=6) scMI.nd rfl (Or.inl rfl) (pe_call GN hr1 rfl mN kN bN .nil pass0 (pac (pv 2) (pac (pv 3) (pac (pv 4) pa_nil)))))
   (pss_cons (ps_expr (pe_call GR hr2 rfl mR kR bR .nil (D.passes fun _ _ _ z=>z) (pac (pv 6) pa_nil)))
   (pss_cons (ps_setcomp (i:=7) (N':=["room","deed","far"]) (nown:=3) (js:=[]) rfl scMI.nd rfl rfl rfl
     ⟨rfl,by decide +kernel,by decide +kernel⟩ (blkNames (defScope mInit) NMI rfl rfl (by decide +kernel))
     ⟨fun _ _ _ _=>show PG _ _ (gTup K 3 (gCons (gName 0) (gCons (gName 1) (gCons (gName 2) gNil)))) from pg_tup rfl (pgs_cons (pg_name (i:=0) (show List.Nodup (["room","deed","far"]:List Str) by decide +kernel) rfl (Or.inl rfl) (.inr rfl)) (pgs_cons (pg_name (i:=1) (show List.Nodup (["room","deed","far"]:List Str) by decide +kernel) rfl (Or.inl rfl) (.inr rfl)) (pgs_cons (pg_name (i:=2) (show List.Nodup (["room","deed","far"]:List Str) by decide +kernel) rfl (Or.inl rfl) (.inr rfl)) pgs_nil))),
      fun _ _ _ _=>pts_nil,fun _ _ _ _=>pv 1⟩
     (pi_list (pv 4)))
   (pss_cut (fun σ H'=>∃ p c,σ=[some (.ref x),some (.ref dd),some (.str b),some (.ref e),some (.ref d),some y,some (.ref p),some (.ref c)]∧H' p=some (.lst ((roomsOf b es ds).map V.str))∧H' c=some (.lst ((knownOf ds ms).map V.str))∧Same H H')
    (ps_if (pt_cmpR op_notN (pv 5) pe_non (nomark _)) (pss_one (ps_expr (pe_bm PySem.F.plainAttrs_list PySem.F.slot_list_extend PySem.F.type_list_extend mt_extend (pv 7) (pac (pv 5) pa_nil)))) pss_nil)
   (pss_cons (ps_expr (pe_meth (pv 1) DC.cl mQ GQ hr bQ .nil (D.passes fun _ _ _ z=>z) (pac (pv 7) pa_nil)))
   (pss_cons (ps_fld (pv 0) (pe_call GL hr1 rfl mL kL bL .nil pass0 (pac (pv 6) (pac (pv 4) pa_nil))) rfl)
   (pss_cons (ps_if (pt_cmpR op_gt (pe_callB call_lenD (by rfl) T.len Bo.len (pac (pe_fld (pv 0) rfl) pa_nil)) (pe_glob (v:=.int 60) (by rfl) mMR ⟨_,rfl⟩) (nomark _)) (pss_one ps_dead) pss_nil)
   (pss_cons (ps_fld (pv 0) (pv 1) rfl)
   (pss_cons (ps_fld (pv 0) (pv 2) rfl)
   (pss_cons (ps_fld (pv 0) (pe_call GK hr1 rfl mK kK bK .nil pass0 (pac (pv 3) pa_nil)) rfl)
   (pss_one (ps_fld (pv 0) (pe_call GK hr1 rfl mK kK bK .nil pass0 (pac (pv 7) pa_nil)) rfl))))))))))),?_⟩
  have hxe:∀ {a:Addr} {o:HO},H a=some o→(∀ fs,o≠.ins CM dx fs)→a≠x:=fun {a o} h n e=>by rw [e,hx] at h; exact n _ (Option.some.inj h).symm
  refine ⟨_,rfl,_,rfl,_,rfl,b,e,d,es,ds,rfl,hE,hD,by omega,by omega,fun p H1 s1 hp hp1=>?_⟩
  refine ⟨_,rfl,p,_,rfl,SqL.of hp1,short_of_names hnm,fun H2 s2=>?_⟩
  unfold badRooms
  rw [if_pos hnm]
  have s12:=s1.trans s2
  obtain ⟨ts,hd,htl,htt⟩:=(hD.same s12).ex
  have hp2:=s2 _ _ hp1
  clear hp1
  refine ⟨_,rfl,d,rfl,⟨_,SqL.of hd⟩,fun c hc=>?_⟩
  refine blk_list (xs:=ts.map V.ref) (fun i σ' H'=>∃ v0 v1 v2,σ'=[v0,v1,v2]∧H' c=some (.lst (((ds.take i).map (·.2.1)).map V.str))∧Same H2 H') ?_ ?_ ?_ ?_
  ·exact ⟨none,none,none,rfl,upd_same,smu hc⟩
  ·rintro i σ' H' _ ⟨v0,v1,v2,rfl,h1,h2⟩
   exact SqL.of (h2 _ _ hd)
  ·rintro i v σ' H' hv ⟨v0,v1,v2,rfl,h1,h2⟩
   rw [List.getElem?_map] at hv
   cases ht:ts[i]? with
   | none=>rw [ht] at hv; cases hv
   | some t=>
    rw [ht] at hv
    cases hv
    have hi:i<ds.length:=by rw [← htl]; exact (List.getElem?_eq_some_iff.mp ht).1
    have hz:ds[i]?=some ds[i]:=List.getElem?_eq_getElem hi
    generalize ds[i]=z at hz
    refine ⟨t,_,rfl,SqT.of (h2 _ _ (htt i t z ht hz)),rfl,_,_,rfl,_,_,rfl,_,_,rfl,rfl,?_⟩
    refine ⟨_,rfl,_,h1,small1000 (by rw [List.length_map,List.length_map,List.length_take]; omega),some (.str z.1),some (.str z.2.1),some (.str z.2.2),rfl,?_,fun a o h=>?_⟩
    ·rw [upd_same,List.take_succ,hz]
     simp
    ·rw [upd_ne (ne_of_none h hc)]
     exact h2 a o h
  ·rintro σ' H3 ⟨v0,v1,v2,rfl,h1,h2⟩
   rw [List.length_map,htl,List.take_length] at h1
   have hcH:H c=none:=by
    cases h:H c with
    | none=>rfl
    | some o=>rw [s12 _ _ h] at hc; cases hc
   refine ⟨?_,?_⟩
   ·rcases hM with ⟨rfl,rfl⟩ | ⟨m,rfl,hm⟩
    ·refine ⟨_,rfl,rfl,_,rfl,iteF ?_⟩
     refine ⟨p,c,rfl,h2 _ _ hp2,?_,s12.trans h2⟩
     rw [h1]
     unfold knownOf
     rw [List.append_nil]
    ·refine ⟨_,rfl,rfl,_,rfl,iteT ?_⟩
     refine ⟨_,rfl,.inl ⟨rfl,_,SqL.of h1⟩,_,rfl,c,m,_,_,rfl,rfl,h1,h2 _ _ (s12 _ _ hm),small2 (by rw [List.length_map,List.length_map,List.length_map]; omega),p,c,rfl,?_,?_,fun a o h=>?_⟩
     ·rw [upd_ne (ne_of_none hp2 hc)]
      exact h2 _ _ hp2
     ·rw [upd_same]
      unfold knownOf
      rw [List.map_append]
     ·rw [upd_ne (ne_of_none h hcH)]
      exact h2 _ _ (s12 _ _ h)
   ·clear h1 h2 hp2 s12 s1 s2 hd htl htt hc hcH
    rintro σ H4 ⟨p,c,rfl,hp4,hc4,s4⟩
    obtain ⟨wx,wf,ww,wo,hw0,hw1,hw2,hw3⟩:=hW
    refine ⟨_,rfl,dd,wx,wf,rfl,s4 _ _ hw0,hw1 "require" (by decide),_,rfl,dd,c,_,wk,rfl,SqL.of hc4,thing_str hsh,⟨wx,wf,ww,wo,s4 _ _ hw0,hw1,hw2,s4 _ _ hw3⟩,fun H5 s5=>?_⟩
    rw [if_pos hgd]
    have s45:=s4.trans s5
    have hx5:=s45 _ _ hx
    refine ⟨_,rfl,_,rfl,p,d,_,ds,rfl,SqL.of (s5 _ _ hp4),hD.same s45,by rw [roomsOf_len]; omega,by omega,door_mem,hap,fun l kvs g H6 s6 hl hg L=>?_⟩
    have hx6:=s6 _ _ hx5
    have lx:l≠x:=fun z=>by rw [z,hx5] at hl; cases hl
    have gx:∀ z∈roomsOf b es ds,g z≠x:=fun z hz z'=>by have:=hg z hz; rw [z',hx5] at this; cases this
    refine ⟨_,rfl,x,CM,dx,[],rfl,hx6,MC.cl,MC.nl,by decide,?_⟩
    have hkl:kvs.length≤60:=by
     have:=congrArg List.length L.keys
     rw [List.length_map,List.length_map] at this
     rw [this]; exact h60
    have L7:LeadsAt (upd H6 x (.ins CM dx (putF "leads" (.ref l) []))) l (roomsOf b es ds) ds kvs g:=⟨by rw [upd_ne lx]; exact L.dk,L.keys,L.val,fun z hz=>by rw [upd_ne (gx z hz)]; exact L.dd z hz,L.inj,L.ne⟩
    have hx7:(upd H6 x (.ins CM dx (putF "leads" (.ref l) []))) x=some (.ins CM dx [("leads",.ref l)]):=upd_same
    have s7:SameBut x H (upd H6 x (.ins CM dx (putF "leads" (.ref l) []))):=fun a o n h=>by rw [upd_ne n]; exact s6 _ _ (s45 _ _ h)
    have hc7:(upd H6 x (.ins CM dx (putF "leads" (.ref l) []))) c=some (.lst ((knownOf ds ms).map V.str)):=by
     rw [upd_ne fun z=>by rw [z,s4 _ _ hx] at hc4; cases hc4]
     exact s6 _ _ (s5 _ _ hc4)
    generalize upd H6 x (.ins CM dx (putF "leads" (.ref l) []))=H7 at L7 hx7 s7 hc7 ⊢
    have he7:=s7 _ _ (hxe hE fun _ z=>by cases z) hE
    refine ⟨_,rfl,x,CM,dx,_,.ref l,rfl,hx7,MC.cl,MC.nl,by rfl,l,kvs,rfl,L7.dk,_,_,rfl,rfl,_,rfl,ite2 (fun z=>absurd (of_decide_eq_true z) (by omega)) fun _=>?_⟩
    refine ⟨_,rfl,_,rfl,x,CM,dx,_,rfl,hx7,MC.cl,MC.nd,by show 1<1000; decide,?_⟩
    refine ⟨_,rfl,_,rfl,x,CM,dx,_,rfl,upd_same,MC.cl,MC.nf,by show 2<1000; decide,?_⟩
    have hL8:∀ (f2 f3:List (Str×V)),LeadsAt (upd (upd H7 x (.ins CM dx f2)) x (.ins CM dx f3)) l (roomsOf b es ds) ds kvs g:=fun f2 f3=>⟨by rw [upd_ne lx,upd_ne lx]; exact L7.dk,L7.keys,L7.val,fun z hz=>by rw [upd_ne (gx z hz),upd_ne (gx z hz)]; exact L7.dd z hz,L7.inj,L7.ne⟩
    have h8:∀ (f2 f3:List (Str×V)),SameBut x H7 (upd (upd H7 x (.ins CM dx f2)) x (.ins CM dx f3)):=fun f2 f3 a o n h=>by rw [upd_ne n,upd_ne n]; exact h
    have cx:c≠x:=fun z=>by rw [z,hx7] at hc7; cases hc7
    have ex:e≠x:=hxe hE fun _ z=>by cases z
    refine ⟨_,rfl,e,es,rfl,SqL.of (h8 _ _ _ _ ex he7),by omega,fun de H9 s9 hde hde9=>?_⟩
    have hx9:=s9 x _ upd_same
    have dex:de≠x:=fun z=>by rw [z,upd_same] at hde; cases hde
    refine ⟨_,rfl,x,CM,dx,_,rfl,hx9,MC.cl,MC.ne,by show 3<1000; decide,?_⟩
    have s79:∀ f4:List (Str×V),SameBut x H7 (upd H9 x (.ins CM dx f4)):=fun f4 a o n h=>by rw [upd_ne n]; exact s9 _ _ (h8 _ _ _ _ n h)
    refine ⟨_,rfl,c,_,rfl,SqL.of (s79 _ _ _ cx hc7),by unfold knownOf; rw [List.length_append,List.length_map]; omega,fun dk H10 s10 hdk hdk10=>?_⟩
    have hx10:=s10 x _ upd_same
    have dkx:dk≠x:=fun z=>by rw [z,upd_same] at hdk; cases hdk
    refine ⟨_,rfl,x,CM,dx,_,rfl,hx10,MC.cl,MC.nk,by show 4<1000; decide,?_⟩
    have sF:∀ f5:List (Str×V),SameBut x H7 (upd H10 x (.ins CM dx f5)):=fun f5 a o n h=>by rw [upd_ne n]; exact s10 _ _ (s79 _ _ _ n h)
    refine q l de dk kvs g _ (fun a o n h=>sF _ a o n (s7 a o n h)) ⟨by rw [upd_same]; rfl,⟨sF _ _ _ lx L7.dk,L7.keys,L7.val,fun z hz=>sF _ _ _ (gx z hz) (L7.dd z hz),L7.inj,L7.ne⟩,?_,?_⟩
    ·rw [upd_ne dex]
     exact s10 _ _ (by rw [upd_ne dex]; exact hde9)
    ·rw [upd_ne dkx]
     exact hdk10
end
end K14
namespace K14
open PySem L2 Ky
seal L2.PE L2.PS L2.PSs L2.PA L2.PT L2.PW L2.PG L2.PI L2.PTs L2.PO L2.OpR L2.IxR L2.CallR L2.MtM L2.MtR
unseal L2.MtM L2.MtR
noncomputable abbrev tabs:List (List Str):=[["a","b","c","d","e"],["r0","r1","r2","r3","r4"],["go","stop","x","room1","zz"],["a","ab","b","ba","aba"],["a","ab","b","ba","aba"]]
noncomputable def roomAt (c:Int) (k:Nat):Str:=(tabs.getD (c%5).toNat []).getD ((c/5+k)%5).toNat ""
noncomputable def roomsBy (c:Int) (n:Nat):List Str:=(List.range n).map (roomAt c)
theorem roomsBy_len (c:Int) (n:Nat):(roomsBy c n).length=n:=by unfold roomsBy; rw [List.length_map,List.length_range]
theorem tabs5:∀ i,i<5→(tabs.getD i []).length=5∧(tabs.getD i []).all isNameS=true∧(tabs.getD i []).Nodup:=by decide +kernel
inductive spRoomsBy (vs:List V) (H:Hp) (Q:VK) (E:XK):Prop
 | mk (c:Int) (n:Nat) (h0_:vs=[.int c,.int n]) (h1_:n≤1000) (h2_:∀ (l:Addr) H',Same H H'→H l=none→H' l=some (.lst ((roomsBy c n).map V.str))→Q (.ref l) H')
section
variable {P:Program} {w:World} {K:PySem.W.Frag} {mg:Str→Option Value} {base:Heap}
noncomputable abbrev NRB:List Str:=["_law_cell","_law_many","_law_some"]
theorem scRB:FnScope NRB ["_law_cell","_law_many"] (defScope sRoomsBy):=⟨rfl,rfl,rfl,by decide +kernel,rfl,by decide +kernel,by decide +kernel⟩
theorem ok_roomsBy {f:Addr} {fd:FuncData} (F:Fun K "_law_rooms_by" "_law_rooms_by" sRoomsBy f fd) (T:Txt K mg):FnOk P w K mg base CX0 1 f fd ["_law_cell","_law_many"] spRoomsBy:=by
 refine F.ok scRB (fun vs H Q E h=>?_) (fun cdv A outer s H vs Q E hr h=>?_)
 ·obtain ⟨c,n,rfl,_⟩:=h
  rfl
 ·obtain ⟨c,n,rfl,hn,q⟩:=h
  refine ⟨_,pss_cons (ps_set (i:=2) scRB.nd rfl (Or.inr rfl) (pe_lst (pac (pe_lst (pac pe_str (pac pe_str (pac pe_str (pac pe_str (pac pe_str pa_nil)))))) (pac (pe_lst (pac pe_str (pac pe_str (pac pe_str (pac pe_str (pac pe_str pa_nil)))))) pa_nil))))
   (pss_cons (ps_set (i:=2) scRB.nd rfl (Or.inr rfl) (pe_op op_cat (pe_op op_cat (pv 2) (pe_lst (pac (pe_lst (pac pe_str (pac pe_str (pac pe_str (pac pe_str (pac pe_str pa_nil)))))) pa_nil)))
     (pe_op op_rep (pe_lst (pac (pe_lst (pac pe_str (pac pe_str (pac pe_str (pac pe_str (pac pe_str pa_nil)))))) pa_nil)) pe_int)))
   (pss_one (ps_ret (pe_comp (N':=["_law_k","_law_some","_law_cell"]) (nown:=1) (js:=[2,0]) rfl
     ⟨rfl,by decide +kernel,by decide +kernel⟩ (blkNames (defScope sRoomsBy) NRB rfl rfl (by decide +kernel))
     ⟨fun _ _ _ _=>pg_name (i:=0) (show List.Nodup (["_law_k","_law_some","_law_cell"]:List Str) by decide +kernel) rfl (Or.inl rfl) (.inr rfl),fun _ _ _ _=>pts_nil,
      fun _ _ _ _=>pe_ix (show IxR _ (rIxL K) from ix_list) (pe_ix (show IxR _ (rIxL K) from ix_list) (pv 1) (pe_op op_mod (pv 2) pe_int) (fun _ _=>rfl)) (pe_op op_mod (pe_op op_add (pe_op op_fdiv (pv 2) pe_int) (pv 0)) pe_int) (fun _ _=>rfl)⟩
     (pi_range1 rfl T.range (pac (pv 1) pa_nil)))))),?_⟩
  refine ⟨by show 5≤sizeLine; decide,fun p1 h1=>⟨by show 5≤sizeLine; decide,fun p2 h2=>⟨by show 2≤sizeLine; decide,fun p3 h3=>⟨_,rfl,by show 5≤sizeLine; decide,fun p4 h4=>⟨by show 1≤sizeLine; decide,fun p5 h5=>⟨p3,p5,_,_,rfl,rfl,smu h5 _ _ (smu h4 _ _ upd_same),upd_same,by show 3≤sizeLine; decide,fun p6 h6=>⟨by show 5≤sizeLine; decide,fun p7 h7=>⟨by show 1≤sizeLine; decide,fun p8 h8=>⟨p8,2,_,rfl,rfl,upd_same,by decide,by decide,by show 1*2≤sizeLine; decide,fun p9 h9=>⟨p6,p9,_,_,rfl,rfl,smu h9 _ _ (smu h8 _ _ (smu h7 _ _ upd_same)),upd_same,by show 3+2≤sizeLine; decide,fun p10 h10=>?_⟩⟩⟩⟩⟩⟩⟩⟩⟩⟩
  generalize hH2:upd (upd (upd (upd (upd (upd (upd (upd (upd (upd H p1 _) p2 _) p3 _) p4 _) p5 _) p6 _) p7 _) p8 _) p9 _) p10 _=H2
  have s2:Same H H2:=by rw [← hH2]; exact (smu h1).trans ((smu h2).trans ((smu h3).trans ((smu h4).trans ((smu h5).trans ((smu h6).trans ((smu h7).trans ((smu h8).trans ((smu h9).trans (smu h10)))))))))
  have e10:H2 p10=some (.lst ([p1,p2,p4,p7,p7].map V.ref)):=by rw [← hH2,upd_same]; rfl
  have ee:∀ i,i<5→H2 ([p1,p2,p4,p7,p7].getD i 0)=some (.lst ((tabs.getD i []).map V.str)):=by
   rw [← hH2]
   intro i hi
   match i,hi with
   | 0,_=>exact smu h10 _ _ (smu h9 _ _ (smu h8 _ _ (smu h7 _ _ (smu h6 _ _ (smu h5 _ _ (smu h4 _ _ (smu h3 _ _ (smu h2 _ _ upd_same))))))))
   | 1,_=>exact smu h10 _ _ (smu h9 _ _ (smu h8 _ _ (smu h7 _ _ (smu h6 _ _ (smu h5 _ _ (smu h4 _ _ (smu h3 _ _ upd_same)))))))
   | 2,_=>exact smu h10 _ _ (smu h9 _ _ (smu h8 _ _ (smu h7 _ _ (smu h6 _ _ (smu h5 _ _ upd_same)))))
   | 3,_=>exact smu h10 _ _ (smu h9 _ _ (smu h8 _ _ upd_same))
   | 4,_=>exact smu h10 _ _ (smu h9 _ _ (smu h8 _ _ upd_same))
  clear hH2 h1 h2 h3 h4 h5 h6 h7 h8 h9 h10
  refine ⟨_,rfl,n,rfl,by omega,by omega,fun D hD=>blk_range (n:=n) (fun i σ' H'=>∃ v,σ'=[v,some (.ref p10),some (.int c)]∧H' D=some (.lst ((roomsBy c i).map V.str))∧Same H2 H') ?_ ?_ ?_⟩
  ·exact ⟨none,rfl,upd_same,smu hD⟩
  ·rintro i σ' H' hi ⟨v,rfl,hl',sm⟩
   have g5:=emod_in c (m:=5) (by decide)
   have g5':=emod_in (c/5+(0+(i:Int))) (m:=5) (by decide)
   have ti:=tabs5 (c%5).toNat (by omega)
   have el:=ee (c%5).toNat (by omega)
   refine ⟨_,rfl,_,rfl,_,_,rfl,rfl,(by show (0:Int)<5; decide),p10,_,_,V.ref ([p1,p2,p4,p7,p7].getD (c%5).toNat 0),rfl,rfl,SqL.of (sm _ _ e10),atI_getD V.ref [p1,p2,p4,p7,p7] 0 g5.1 g5.2,?_⟩
   refine ⟨_,rfl,_,_,rfl,rfl,⟨by decide,by decide⟩,_,rfl,_,_,rfl,rfl,_,_,rfl,rfl,(by show (0:Int)<5; decide),_,_,_,V.str (roomAt c i),rfl,rfl,SqL.of (sm _ _ el),?_,_,hl',?_,_,rfl,?_,?_⟩
   ·have h:=atI_getD V.str (tabs.getD (c%5).toNat []) "" g5'.1 (by rw [ti.1]; exact g5'.2)
    rw [h,Int.zero_add]
    rfl
   ·exact small1000 (by rw [List.length_map,roomsBy_len]; omega)
   ·rw [upd_same]
    unfold roomsBy
    rw [List.range_succ,List.map_append,List.map_append]
    rfl
   ·intro b o e
    rw [upd_ne (ne_of_none e hD)]
    exact sm b o e
  ·rintro σ' H' ⟨v,rfl,hl',sm⟩
   exact q D H' (s2.trans sm) (s2.free hD) hl'
end
end K14
namespace K14
open PySem L2 Ky
seal L2.PE L2.PS L2.PSs L2.PA L2.PT L2.PW L2.PG L2.PI L2.PTs L2.PO L2.OpR L2.IxR L2.CallR L2.MtM L2.MtR
unseal L2.MtM L2.MtR
section
variable {P:Program} {w:World} {K:PySem.W.Frag} {mg:Str→Option Value} {base:Heap}
noncomputable abbrev NMB:List Str:=["_law_cell","_law_names","_law_many","_law_rooms","_law_known","_law_doors","_law_i","_law_room","_law_k","_law_deed","_law_draw","_law_ends","_law_more"]
theorem scMBy:FnScope NMB ["_law_cell","_law_names","_law_many"] (defScope sMachineBy):=⟨rfl,rfl,rfl,by decide +kernel,rfl,by decide +kernel,by decide +kernel⟩
theorem flat_strs (fs:List Str):(fs.map V.str).all flatV=true:=by
 rw [List.all_map,List.all_eq_true]
 intro z _
 rfl
theorem inV_str (z:Str) (fs:List Str):inV (.str z) (fs.map V.str)=decide (z∈fs):=by
 have e:∀ y:Str,eqV (.str y) (.str z)=(y==z):=fun _=>rfl
 unfold inV
 rw [List.any_map,Bool.eq_iff_iff,List.any_eq_true,decide_eq_true_iff]
 constructor
 ·rintro ⟨y,hy,h⟩
  have h':(y==z)=true:=h
  rw [← eq_of_beq h']; exact hy
 ·exact fun h=>⟨z,h,(e z).trans (beq_self_eq_true z)⟩
noncomputable def pK (c:Int) (k:Nat):Bool:=decide (RW.mixed c (300+(k:Int))%4>0)
noncomputable def pE (c:Int) (k:Nat):Bool:=decide (RW.mixed c (400+(k:Int))%2=0)
noncomputable def pM (c:Int) (k:Nat):Bool:=decide (RW.mixed c (500+(k:Int))%8=1)
noncomputable def drw (c:Int) (i k:Nat):Int:=RW.mixed c (20*(i:Int)+(k:Int))
noncomputable def dr (c:Int) (kn rs nm:List Str) (n i k:Nat):Option Dr:=match rs[i]?,nm[k]? with
 | some r,some d=>if (decide (d∈kn)&&decide (drw c i k%3>0))=true then some (r,d,rs.getD (drw c i k/3%n).toNat "") else none
 | _,_=>none
noncomputable def rowD (c:Int) (kn rs nm:List Str) (n i j:Nat):List Dr:=(List.range j).filterMap (dr c kn rs nm n i)
noncomputable def allD (c:Int) (kn rs nm:List Str) (n i:Nat):List Dr:=(List.range i).flatMap fun a=>rowD c kn rs nm n a nm.length
noncomputable def knownBy (c:Int) (nm:List Str):List Str:=pick (pK c) nm nm.length
noncomputable def doorsBy (c:Int) (nm:List Str) (n:Nat):List Dr:=let d:=allD c (knownBy c nm) (roomsBy c n) nm n n; if c/15%2=1 then d.reverse else d
noncomputable def endsBy (c:Int) (n:Nat):List Str:=pick (pE c) (roomsBy c n) n
noncomputable def moreBy (c:Int) (nm:List Str):List Str:=pick (pM c) nm nm.length
theorem rowD_succ {c:Int} {kn rs nm:List Str} {n i k:Nat} {r d:Str} (hr:rs[i]?=some r) (hd:nm[k]?=some d):rowD c kn rs nm n i (k+1)=rowD c kn rs nm n i k++(if (decide (d∈kn)&&decide (drw c i k%3>0))=true then [(r,d,rs.getD (drw c i k/3%n).toNat "")] else []):=by
 unfold rowD
 rw [List.range_succ,List.filterMap_append]
 have e:dr c kn rs nm n i k=if (decide (d∈kn)&&decide (drw c i k%3>0))=true then some (r,d,rs.getD (drw c i k/3%n).toNat "") else none:=by
  unfold dr
  rw [hr,hd]
 by_cases q:(decide (d∈kn)&&decide (drw c i k%3>0))=true
 ·rw [if_pos q] at e ⊢
  rw [List.filterMap_cons_some e]
  rfl
 ·rw [if_neg q] at e ⊢
  rw [List.filterMap_cons_none e]
  rfl
theorem allD_succ (c:Int) (kn rs nm:List Str) (n i:Nat):allD c kn rs nm n (i+1)=allD c kn rs nm n i++rowD c kn rs nm n i nm.length:=by
 unfold allD
 rw [List.range_succ,List.flatMap_append]
 simp
theorem rowD_len (c:Int) (kn rs nm:List Str) (n i j:Nat):(rowD c kn rs nm n i j).length≤j:=by
 refine Nat.le_trans (List.length_filterMap_le ..) ?_
 rw [List.length_range]
 exact Nat.le_refl _
theorem allD_len (c:Int) (kn rs nm:List Str) (n:Nat):∀ i,(allD c kn rs nm n i).length≤nm.length*i
 | 0=>Nat.le_refl _
 | i+1=>by
  rw [allD_succ,List.length_append,Nat.mul_succ]
  exact Nat.add_le_add (allD_len c kn rs nm n i) (rowD_len ..)
inductive spMachineBy (K:PySem.W.Frag) (vs:List V) (H:Hp) (Q:VK) (E:XK):Prop
 | mk (c:Int) (a:Addr) (n:Nat) (ss:List Str) (h0_:vs=[.int c,.ref a,.int n]) (h1_:SqL K H a (ss.map V.str)) (h2_:1≤n) (h3_:n≤5) (h4_:ss.length≤12)
  (h5_:∀ (t e d m:Addr) H',Same H H'→H e=none→H d=none→H m=none→H' t=some (.tup [.str (roomAt c 0),.ref e,.ref d,.ref m])→H' e=some (.lst ((endsBy c n).map V.str))→DoorsAt H' d (doorsBy c ss n)→H' m=some (.lst ((moreBy c ss).map V.str))→Q (.ref t) H')
inductive J1 (H:Hp) (c:Int) (a:Addr) (n:Nat) (ss:List Str) (σ:St) (H':Hp):Prop
 | mk (l kn:Addr) (h0_:σ=[some (.int c),some (.ref a),some (.int n),some (.ref l),some (.ref kn),none,none,none,none,none,none,none,none]) (h1_:H' l=some (.lst ((roomsBy c n).map V.str))) (h2_:H' kn=some (.lst ((knownBy c ss).map V.str))) (h3_:Same H H')
inductive J2 (H:Hp) (c:Int) (a:Addr) (n:Nat) (ss:List Str) (i:Nat) (ds:List Dr) (x11 x12:Option V) (σ:St) (H':Hp):Prop
 | mk (l kn d:Addr) (x6 x7 x8 x9 x10:Option V) (h0_:σ=[some (.int c),some (.ref a),some (.int n),some (.ref l),some (.ref kn),some (.ref d),x6,x7,x8,x9,x10,x11,x12]) (h1_:H' l=some (.lst ((roomsBy c n).map V.str))) (h2_:H' kn=some (.lst ((knownBy c ss).map V.str))) (h3_:DoorsAt H' d ds) (h4_:H d=none) (h5_:l≠d) (h6_:kn≠d) (h7_:Same H H') (h8_:∀ p,(x11=some (.ref p)∨x12=some (.ref p))→p≠d∧H p=none)
noncomputable abbrev nd3:List Str:=["_law_k","_law_name","_law_cell"]
noncomputable abbrev nd4:List Str:=["_law_i","_law_room","_law_cell"]
theorem ok_machineBy {f fM fR:Addr} {fd fdM fdR:FuncData} (F:Fun K "_law_machine_by" "_law_machine_by" sMachineBy f fd) (T:Txt K mg)
  (GM:FnOk P w K mg base CX0 1 fM fdM ["_law_cell","_law_k"] spMixed) (kM:PySem.W.keepIn K (.ref fM)=true) (bM:Binds K fdM ["_law_cell","_law_k"] []) (mM:mg "_law_mixed" = some (.ref fM))
  (GR:FnOk P w K mg base CX0 1 fR fdR ["_law_cell","_law_many"] spRoomsBy) (kR:PySem.W.keepIn K (.ref fR)=true) (bR:Binds K fdR ["_law_cell","_law_many"] []) (mR:mg "_law_rooms_by" = some (.ref fR)) :
  FnOk P w K mg base CX0 2 f fd ["_law_cell","_law_names","_law_many"] (spMachineBy K):=by
 refine F.ok scMBy (fun vs H Q E h=>?_) (fun cdv A outer s H vs Q E hr h=>?_)
 ·obtain ⟨c,a,n,ss,rfl,_⟩:=h
  rfl
 ·obtain ⟨c,a,n,ss,rfl,hA,hn1,hn5,hs12,q⟩:=h
  refine ⟨_,pss_cons (ps_set (i:=3) scMBy.nd rfl (Or.inl rfl) (pe_call GR hr rfl mR kR bR .nil pass0 (pac (pv 0) (pac (pv 2) pa_nil))))
   (pss_cut (J1 H c a n ss) (ps_setcomp (i:=4) (N':=nd3) (nown:=2) (js:=[0]) rfl scMBy.nd rfl rfl rfl
     ⟨rfl,by decide +kernel,by decide +kernel⟩ (blkNames (defScope sMachineBy) NMB rfl rfl (by decide +kernel))
     ⟨fun _ _ _ _=>show PG _ _ (gTup K 2 (gCons (gName 0) (gCons (gName 1) gNil))) from pg_tup rfl (pgs_cons (pg_name (i:=0) (show List.Nodup nd3 by decide +kernel) rfl (Or.inl rfl) (.inr rfl)) (pgs_cons (pg_name (i:=1) (show List.Nodup nd3 by decide +kernel) rfl (Or.inl rfl) (.inr rfl)) pgs_nil)),
      fun _ _ _ _=>pts_one (pt_cmpR op_gt (pe_op op_mod (pe_call GM hr rfl mM kM bM .nil pass0 (pac (pv 2) (pac (pe_op op_add pe_int (pv 0)) pa_nil))) pe_int) pe_int (nomark _)),
      fun _ _ _ _=>pv 1⟩
     (pi_enum rfl T.enum (pac (pv 1) pa_nil)))
   (pss_cons (ps_set (i:=5) scMBy.nd rfl (Or.inl rfl) (pe_lst pa_nil))
   (pss_cut (J2 H c a n ss n (allD c (knownBy c ss) (roomsBy c n) ss n n) none none) (ps_for PassesOwn.never rfl (pi_enum rfl T.enum (pac (pv 3) pa_nil)) (pg_tup rfl (pgs_cons (pg_name (i:=6) scMBy.nd rfl (Or.inl rfl)) (pgs_cons (pg_name (i:=7) scMBy.nd rfl (Or.inl rfl)) pgs_nil)))
    (pss_one (ps_for PassesOwn.never rfl (pi_enum rfl T.enum (pac (pv 1) pa_nil)) (pg_tup rfl (pgs_cons (pg_name (i:=8) scMBy.nd rfl (Or.inl rfl)) (pgs_cons (pg_name (i:=9) scMBy.nd rfl (Or.inl rfl)) pgs_nil)))
     (pss_cons (ps_set (i:=10) scMBy.nd rfl (Or.inl rfl) (pe_call GM hr rfl mM kM bM .nil pass0 (pac (pv 0) (pac (pe_op op_add (pe_op op_mul pe_int (pv 6)) (pv 8)) pa_nil))))
     (pss_one (ps_if (pw_and (pt_cmpR (show OpR _ _ (rIn K false) from op_in_seq) (pv 9) (pv 4) (by with_unfolding_all rfl)) (pw_and1 (pt_cmpR op_gt (pe_op op_mod (pv 10) pe_int) pe_int (nomark _)))).pt
      (pss_one (ps_expr (pe_bm PySem.F.plainAttrs_list PySem.F.slot_list_append PySem.F.type_list_append mt_append (pv 5) (pac (pe_tup (pac (pv 7) (pac (pv 9) (pac (pe_ix ix_list (pv 3) (pe_op op_mod (pe_op op_fdiv (pv 10) pe_int) (pv 2)) (fun _ _=>rfl)) pa_nil)))) pa_nil)))) pss_nil))))))
   (pss_cut (fun σ H'=>∃ e,J2 H c a n ss n (allD c (knownBy c ss) (roomsBy c n) ss n n) (some (.ref e)) none σ H'∧H' e=some (.lst ((endsBy c n).map V.str))) (ps_setcomp (i:=11) (N':=nd4) (nown:=2) (js:=[0]) rfl scMBy.nd rfl rfl rfl
     ⟨rfl,by decide +kernel,by decide +kernel⟩ (blkNames (defScope sMachineBy) NMB rfl rfl (by decide +kernel))
     ⟨fun _ _ _ _=>show PG _ _ (gTup K 2 (gCons (gName 0) (gCons (gName 1) gNil))) from pg_tup rfl (pgs_cons (pg_name (i:=0) (show List.Nodup nd4 by decide +kernel) rfl (Or.inl rfl) (.inr rfl)) (pgs_cons (pg_name (i:=1) (show List.Nodup nd4 by decide +kernel) rfl (Or.inl rfl) (.inr rfl)) pgs_nil)),
      fun _ _ _ _=>pts_one (pt_cmpR op_eq (pe_op op_mod (pe_call GM hr rfl mM kM bM .nil pass0 (pac (pv 2) (pac (pe_op op_add pe_int (pv 0)) pa_nil))) pe_int) pe_int (nomark _)),
      fun _ _ _ _=>pv 1⟩
     (pi_enum rfl T.enum (pac (pv 3) pa_nil)))
   (pss_cut (fun σ H'=>∃ e m,J2 H c a n ss n (allD c (knownBy c ss) (roomsBy c n) ss n n) (some (.ref e)) (some (.ref m)) σ H'∧H' e=some (.lst ((endsBy c n).map V.str))∧H' m=some (.lst ((moreBy c ss).map V.str))) (ps_setcomp (i:=12) (N':=nd3) (nown:=2) (js:=[0]) rfl scMBy.nd rfl rfl rfl
     ⟨rfl,by decide +kernel,by decide +kernel⟩ (blkNames (defScope sMachineBy) NMB rfl rfl (by decide +kernel))
     ⟨fun _ _ _ _=>show PG _ _ (gTup K 2 (gCons (gName 0) (gCons (gName 1) gNil))) from pg_tup rfl (pgs_cons (pg_name (i:=0) (show List.Nodup nd3 by decide +kernel) rfl (Or.inl rfl) (.inr rfl)) (pgs_cons (pg_name (i:=1) (show List.Nodup nd3 by decide +kernel) rfl (Or.inl rfl) (.inr rfl)) pgs_nil)),
      fun _ _ _ _=>pts_one (pt_cmpR op_eq (pe_op op_mod (pe_call GM hr rfl mM kM bM .nil pass0 (pac (pv 2) (pac (pe_op op_add pe_int (pv 0)) pa_nil))) pe_int) pe_int (nomark _)),
      fun _ _ _ _=>pv 1⟩
     (pi_enum rfl T.enum (pac (pv 1) pa_nil)))
   (pss_cons (ps_if (pt_cmpR op_eq (pe_op op_mod (pe_op op_fdiv (pv 0) pe_int) pe_int) pe_int (nomark _)) (pss_one (ps_expr (pe_bm0 PySem.F.plainAttrs_list PySem.F.slot_list_reverse PySem.F.type_list_reverse mt_reverse (pv 5)))) pss_nil)
   (pss_one (ps_ret (pe_tup (pac (pe_ix ix_list (pv 3) pe_int (fun _ _=>rfl)) (pac (pv 11) (pac (pv 5) (pac (pv 12) pa_nil))))))))))))),?_⟩
  refine ⟨_,rfl,_,rfl,c,n,rfl,by omega,fun l H1 s1 hl hl1=>⟨?_,?_⟩⟩
  ·refine ⟨_,rfl,a,rfl,⟨_,s1.seq hA⟩,fun D hD=>blk_enum (xs:=ss.map V.str) (fun i σ' H'=>∃ v0 v1,σ'=[v0,v1,some (.int c)]∧H' D=some (.lst ((pick (pK c) ss i).map V.str))∧Same H1 H') ?_ ?_ ?_ ?_⟩
   ·exact ⟨none,none,rfl,upd_same,smu hD⟩
   ·rintro i σ' H' _ ⟨v0,v1,rfl,h1,h2⟩
    exact h2.seq (s1.seq hA)
   ·rintro i x σ' H' t hx ⟨v0,v1,rfl,h1,h2⟩ ht
    rw [List.getElem?_map] at hx
    cases hz:(ss)[i]? with
    | none=>rw [hz] at hx; cases hx
    | some z=>
     rw [hz] at hx
     cases hx
     have hi:i<(ss).length:=(List.getElem?_eq_some_iff.mp hz).1
     have nD:D≠t:=fun e=>by rw [e,ht] at h1; cases h1
     have sT:Same H1 (upd H' t (.tup [.int i,.str z])):=h2.trans (smu ht)
     have hlu:=pick_len (pK c) (ss) i
     refine ⟨t,_,rfl,SqT.of upd_same,rfl,_,_,rfl,_,_,rfl,rfl,_,rfl,_,rfl,_,_,rfl,rfl,c,_,rfl,_,_,rfl,rfl,(by show (0:Int)<4; decide),_,_,rfl,rfl,_,rfl,ite2 (fun h4=>?_) (fun h4=>?_)⟩
     ·have e4:pK c i=true:=h4
      refine ⟨_,rfl,_,by rw [upd_ne nD]; exact h1,small1000 (by rw [List.length_map]; omega),some (.int i),some (.str z),rfl,?_,?_⟩
      ·rw [upd_same,pick_succ hz,if_pos e4,List.map_append]
       rfl
      ·intro b o e
       rw [upd_ne (ne_of_none e hD)]
       exact sT b o e
     ·have e4:¬ pK c i=true:=h4
      refine ⟨some (.int i),some (.str z),rfl,?_,sT⟩
      rw [upd_ne nD,pick_succ hz,if_neg e4,List.append_nil]
      exact h1
   ·rintro σ' H' ⟨v0,v1,rfl,h1,h2⟩
    rw [List.length_map] at h1
    exact ⟨l,D,rfl,h2 _ _ hl1,h1,s1.trans h2⟩
  rintro σ H2 ⟨l,kn,rfl,hl2,hk2,s2⟩
  refine ⟨by show 0≤sizeLine; decide,fun d hd=>⟨?_,?_⟩⟩
  ·have hdH:H d=none:=s2.free hd
   have ld:l≠d:=ne_of_none hl2 hd
   have kd:kn≠d:=ne_of_none hk2 hd
   have sd:Same H2 (upd H2 d (.lst [])):=smu hd
   have D0:DoorsAt (upd H2 d (.lst [])) d []:=⟨⟨[],upd_same,rfl,fun i t x h=>by cases h⟩⟩
   refine ⟨_,rfl,l,rfl,⟨_,SqL.of (sd _ _ hl2)⟩,?_⟩
   have hl0:=sd _ _ hl2
   have hk0:=sd _ _ hk2
   have hA2:=sd.seq (s2.seq hA)
   have aA:∀ {H':Hp},(∀ b o,b≠d→H2 b=some o→H' b=some o)→(∃ ys,H' d=some (.lst ys))→SqL K H' a (ss.map V.str):=fun {H'} k z=>by
    rcases s2.seq hA with (h | ⟨o,h⟩) | h
    ·exact .inl (.inl (k _ _ (ne_of_none h hd) h))
    ·exact .inl (.inr ⟨o,k _ _ (ne_of_none h hd) h⟩)
    ·exact .inr h
   refine for_enum (xs:=(roomsBy c n).map V.str) (fun i σ H'=>∃ x6 x7 x8 x9 x10,σ=[some (.int c),some (.ref a),some (.int n),some (.ref l),some (.ref kn),some (.ref d),x6,x7,x8,x9,x10,none,none]∧DoorsAt H' d (allD c (knownBy c ss) (roomsBy c n) ss n i)∧∀ b o,b≠d→H2 b=some o→H' b=some o) ?_ ?_ ?_ ?_
   ·exact ⟨none,none,none,none,none,rfl,D0,fun b o _ h=>sd _ _ h⟩
   ·rintro i σ H' _ ⟨x6,x7,x8,x9,x10,rfl,h1,h2⟩
    exact SqL.of (h2 _ _ ld hl2)
   ·rintro i x σ H' t hx ⟨x6,x7,x8,x9,x10,rfl,h1,h2⟩ ht
    rw [List.getElem?_map] at hx
    cases hz:(roomsBy c n)[i]? with
    | none=>rw [hz] at hx; cases hx
    | some r=>
     rw [hz] at hx
     cases hx
     have hi:i<n:=by have:=(List.getElem?_eq_some_iff.mp hz).1; rw [roomsBy_len] at this; exact this
     have sT:=smu (o:=.tup [.int i,.str r]) ht
     have h2':∀ b o,b≠d→H2 b=some o→upd H' t (.tup [.int i,.str r]) b=some o:=fun b o n h=>sT _ _ (h2 b o n h)
     have D1:=h1.same sT
     refine ⟨t,_,rfl,SqT.of upd_same,rfl,_,_,rfl,_,_,rfl,rfl,?_⟩
     generalize upd H' t (.tup [.int i,.str r])=H3 at h2' D1 ⊢
     refine ⟨_,rfl,a,rfl,⟨_,aA h2' (let ⟨_,z,_⟩:=D1.ex; ⟨_,z⟩)⟩,?_⟩
     refine for_enum (xs:=ss.map V.str) (fun k σ H'=>∃ x8 x9 x10,σ=[some (.int c),some (.ref a),some (.int n),some (.ref l),some (.ref kn),some (.ref d),some (.int i),some (.str r),x8,x9,x10,none,none]∧DoorsAt H' d (allD c (knownBy c ss) (roomsBy c n) ss n i++rowD c (knownBy c ss) (roomsBy c n) ss n i k)∧∀ b o,b≠d→H2 b=some o→H' b=some o) ?_ ?_ ?_ ?_
     ·exact ⟨x8,x9,x10,rfl,by rw [show rowD c (knownBy c ss) (roomsBy c n) ss n i 0=[] from rfl,List.append_nil]; exact D1,h2'⟩
     ·rintro k σ H' _ ⟨x8,x9,x10,rfl,h3,h4⟩
      exact aA h4 (let ⟨_,z,_⟩:=h3.ex; ⟨_,z⟩)
     ·rintro k x σ H' t' hx ⟨x8,x9,x10,rfl,h3,h4⟩ ht'
      rw [List.getElem?_map] at hx
      cases hy:ss[k]? with
      | none=>rw [hy] at hx; cases hx
      | some y=>
       rw [hy] at hx
       cases hx
       have hk:k<ss.length:=(List.getElem?_eq_some_iff.mp hy).1
       have es:=rowD_succ (c:=c) (kn:=knownBy c ss) (n:=n) hz hy
       have sT':=smu (o:=.tup [.int k,.str y]) ht'
       have h4':∀ b o,b≠d→H2 b=some o→upd H' t' (.tup [.int k,.str y]) b=some o:=fun b o n h=>sT' _ _ (h4 b o n h)
       have D3:=h3.same sT'
       refine ⟨t',_,rfl,SqT.of upd_same,rfl,_,_,rfl,_,_,rfl,rfl,?_⟩
       generalize upd H' t' (.tup [.int k,.str y])=H4 at h4' D3 ⊢
       refine ⟨_,rfl,_,rfl,_,_,rfl,rfl,.inl ⟨by decide,by decide⟩,_,rfl,_,_,rfl,rfl,c,_,rfl,?_⟩
       refine ⟨_,rfl,_,rfl,kn,_,rfl,.inl (SqL.of (h4' _ _ kd hk2)),rfl,flat_strs _,_,rfl,?_⟩
       have ei:inV (.str y) ((knownBy c ss).map V.str)=decide (y∈knownBy c ss):=inV_str _ _
       have stay:(decide (y∈knownBy c ss)&&decide (drw c i k%3>0))=false→DoorsAt H4 d (allD c (knownBy c ss) (roomsBy c n) ss n i++rowD c (knownBy c ss) (roomsBy c n) ss n i (k+1)):=fun z=>by
        rw [es,if_neg (by rw [z]; exact Bool.false_ne_true),List.append_nil]
        exact D3
       refine ite2 (fun g1=>?_) (fun g1=>?_)
       ·have g1':decide (y∈knownBy c ss)=true:=ei.symm.trans g1
        refine ⟨_,rfl,_,_,rfl,rfl,(by show (0:Int)<3; decide),_,_,rfl,rfl,_,rfl,ite2 (fun g2=>?_) (fun g2=>?_)⟩
        ·have g2':decide (drw c i k%3>0)=true:=g2
         have gi:=emod_in (drw c i k/3) (m:=(n:Int)) (by omega)
         have hat:atI ((roomsBy c n).map V.str) (drw c i k/3%n)=some (.str ((roomsBy c n).getD (drw c i k/3%n).toNat "")):=atI_getD V.str (roomsBy c n) "" gi.1 (by rw [roomsBy_len]; exact gi.2)
         obtain ⟨_,hdd,_⟩:=D3.ex
         refine ⟨_,rfl,.inl ⟨rfl,_,SqL.of hdd⟩,_,rfl,_,rfl,_,rfl,_,rfl,_,_,rfl,rfl,⟨by decide,by decide⟩,_,rfl,_,_,rfl,rfl,(by show (0:Int)<n; omega),l,_,_,_,rfl,rfl,SqL.of (h4' _ _ ld hl2),hat,by show 3≤sizeLine; decide,fun t2 ht2=>?_⟩
         obtain ⟨xs,hx1,hx2,hx3⟩:=D3.push ht2 (r,y,(roomsBy c n).getD (drw c i k/3%n).toNat "")
         have td:t2≠d:=fun z=>by rw [z,hx1] at ht2; cases ht2
         refine ⟨d,xs,_,rfl,rfl,by rw [upd_ne (Ne.symm td)]; exact hx1,?_,_,_,_,rfl,?_,fun b o nb h=>?_⟩
         ·have a1:=allD_len c (knownBy c ss) (roomsBy c n) ss n i
          have a2:=rowD_len c (knownBy c ss) (roomsBy c n) ss n i k
          rw [hx2,List.length_append]
          have a3:ss.length*i≤12*5:=Nat.mul_le_mul hs12 (by omega)
          exact small1000 (by omega)
         ·rw [es,if_pos (by rw [g1',g2']; rfl),← List.append_assoc]
          exact hx3
         ·rw [upd_ne nb]
          exact smu ht2 _ _ (h4' b o nb h)
        ·exact ⟨_,_,_,rfl,stay (by rw [g1',Bool.true_and]; exact Bool.eq_false_iff.mpr g2),h4'⟩
       ·have g1':¬ inV (.str y) ((knownBy c ss).map V.str)=true:=g1
        exact ⟨_,_,_,rfl,stay (by rw [← ei,Bool.eq_false_iff.mpr g1',Bool.false_and]),h4'⟩
     ·rintro σ H' ⟨x8,x9,x10,rfl,h3,h4⟩
      rw [List.length_map,← allD_succ] at h3
      exact ⟨_,_,_,_,_,rfl,h3,h4⟩
   ·rintro σ H' ⟨x6,x7,x8,x9,x10,rfl,h1,h2⟩
    rw [List.length_map,roomsBy_len] at h1
    exact ⟨l,kn,d,x6,x7,x8,x9,x10,rfl,h2 _ _ ld hl2,h2 _ _ kd hk2,h1,hdH,ld,kd,fun b o h=>h2 _ _ (ne_of_none h hdH) (s2 _ _ h),fun p h=>by rcases h with h | h <;> cases h⟩
  clear hl hl1 s1 hl2 hk2 s2 hd
  rintro σ H3 ⟨l,kn,d,x6,x7,x8,x9,x10,rfl,hl3,hk3,hd3,hd0,n1,n2,s3,nn⟩
  refine ⟨?_,?_⟩
  ·refine ⟨_,rfl,l,rfl,⟨_,SqL.of hl3⟩,fun D hD=>blk_enum (xs:=(roomsBy c n).map V.str) (fun i σ' H'=>∃ v0 v1,σ'=[v0,v1,some (.int c)]∧H' D=some (.lst ((pick (pE c) (roomsBy c n) i).map V.str))∧Same H3 H') ?_ ?_ ?_ ?_⟩
   ·exact ⟨none,none,rfl,upd_same,smu hD⟩
   ·rintro i σ' H' _ ⟨v0,v1,rfl,h1,h2⟩
    exact h2.seq (SqL.of hl3)
   ·rintro i x σ' H' t hx ⟨v0,v1,rfl,h1,h2⟩ ht
    rw [List.getElem?_map] at hx
    cases hz:((roomsBy c n))[i]? with
    | none=>rw [hz] at hx; cases hx
    | some z=>
     rw [hz] at hx
     cases hx
     have hi:i<((roomsBy c n)).length:=(List.getElem?_eq_some_iff.mp hz).1
     have nD:D≠t:=fun e=>by rw [e,ht] at h1; cases h1
     have sT:Same H3 (upd H' t (.tup [.int i,.str z])):=h2.trans (smu ht)
     have hlu:=pick_len (pE c) ((roomsBy c n)) i
     refine ⟨t,_,rfl,SqT.of upd_same,rfl,_,_,rfl,_,_,rfl,rfl,_,rfl,_,rfl,_,_,rfl,rfl,c,_,rfl,_,_,rfl,rfl,(by show (0:Int)<2; decide),rfl,_,rfl,ite2 (fun h4=>?_) (fun h4=>?_)⟩
     ·have e4:pE c i=true:=decide_eq_true (V.int.inj (of_decide_eq_true h4))
      refine ⟨_,rfl,_,by rw [upd_ne nD]; exact h1,small1000 (by rw [List.length_map]; rw [roomsBy_len] at hi; omega),some (.int i),some (.str z),rfl,?_,?_⟩
      ·rw [upd_same,pick_succ hz,if_pos e4,List.map_append]
       rfl
      ·intro b o e
       rw [upd_ne (ne_of_none e hD)]
       exact sT b o e
     ·have e4:¬ pE c i=true:=fun z=>h4 (decide_eq_true (congrArg V.int (of_decide_eq_true z)))
      refine ⟨some (.int i),some (.str z),rfl,?_,sT⟩
      rw [upd_ne nD,pick_succ hz,if_neg e4,List.append_nil]
      exact h1
   ·rintro σ' H' ⟨v0,v1,rfl,h1,h2⟩
    rw [List.length_map] at h1
    rw [roomsBy_len] at h1
    exact ⟨D,⟨l,kn,d,x6,x7,x8,x9,x10,rfl,h2 _ _ hl3,h2 _ _ hk3,hd3.same h2,hd0,n1,n2,s3.trans h2,fun p h=>by
     obtain ⟨_,hdd,_⟩:=hd3.ex
     rcases h with h | h
     ·cases h; exact ⟨Ne.symm (ne_of_none hdd hD),s3.free hD⟩
     ·cases h⟩,h1⟩
  clear hl3 hk3 hd3 hd0 n1 n2 s3 nn
  rintro σ H4 ⟨e,⟨l,kn,d,x6,x7,x8,x9,x10,rfl,hl4,hk4,hd4,hd0,n1,n2,s4,nn⟩,he4⟩
  refine ⟨?_,?_⟩
  ·refine ⟨_,rfl,a,rfl,⟨_,s4.seq hA⟩,fun D hD=>blk_enum (xs:=ss.map V.str) (fun i σ' H'=>∃ v0 v1,σ'=[v0,v1,some (.int c)]∧H' D=some (.lst ((pick (pM c) ss i).map V.str))∧Same H4 H') ?_ ?_ ?_ ?_⟩
   ·exact ⟨none,none,rfl,upd_same,smu hD⟩
   ·rintro i σ' H' _ ⟨v0,v1,rfl,h1,h2⟩
    exact h2.seq (s4.seq hA)
   ·rintro i x σ' H' t hx ⟨v0,v1,rfl,h1,h2⟩ ht
    rw [List.getElem?_map] at hx
    cases hz:(ss)[i]? with
    | none=>rw [hz] at hx; cases hx
    | some z=>
     rw [hz] at hx
     cases hx
     have hi:i<(ss).length:=(List.getElem?_eq_some_iff.mp hz).1
     have nD:D≠t:=fun e=>by rw [e,ht] at h1; cases h1
     have sT:Same H4 (upd H' t (.tup [.int i,.str z])):=h2.trans (smu ht)
     have hlu:=pick_len (pM c) (ss) i
     refine ⟨t,_,rfl,SqT.of upd_same,rfl,_,_,rfl,_,_,rfl,rfl,_,rfl,_,rfl,_,_,rfl,rfl,c,_,rfl,_,_,rfl,rfl,(by show (0:Int)<8; decide),rfl,_,rfl,ite2 (fun h4=>?_) (fun h4=>?_)⟩
     ·have e4:pM c i=true:=decide_eq_true (V.int.inj (of_decide_eq_true h4))
      refine ⟨_,rfl,_,by rw [upd_ne nD]; exact h1,small1000 (by rw [List.length_map]; omega),some (.int i),some (.str z),rfl,?_,?_⟩
      ·rw [upd_same,pick_succ hz,if_pos e4,List.map_append]
       rfl
      ·intro b o e
       rw [upd_ne (ne_of_none e hD)]
       exact sT b o e
     ·have e4:¬ pM c i=true:=fun z=>h4 (decide_eq_true (congrArg V.int (of_decide_eq_true z)))
      refine ⟨some (.int i),some (.str z),rfl,?_,sT⟩
      rw [upd_ne nD,pick_succ hz,if_neg e4,List.append_nil]
      exact h1
   ·rintro σ' H' ⟨v0,v1,rfl,h1,h2⟩
    rw [List.length_map] at h1
    exact ⟨e,D,⟨l,kn,d,x6,x7,x8,x9,x10,rfl,h2 _ _ hl4,h2 _ _ hk4,hd4.same h2,hd0,n1,n2,s4.trans h2,fun p h=>by
     obtain ⟨_,hdd,_⟩:=hd4.ex
     rcases h with h | h
     ·exact nn p (.inl h)
     ·cases h; exact ⟨Ne.symm (ne_of_none hdd hD),s4.free hD⟩⟩,h2 _ _ he4,h1⟩
  clear hl4 hk4 hd4 hd0 n1 n2 s4 he4 nn
  rintro σ H5 ⟨e,m,⟨l,kn,d,x6,x7,x8,x9,x10,rfl,hl5,hk5,hd5,hd0,n1,n2,s5,nn⟩,he5,hm5⟩
  have r0:atI ((roomsBy c n).map V.str) 0=some (.str (roomAt c 0)):=by
   have:=atI_nat (xs:=(roomsBy c n).map V.str) (j:=0) (v:=.str (roomAt c 0)) (by
    rw [List.getElem?_map]
    unfold roomsBy
    rw [List.getElem?_map,List.getElem?_range (by omega)]
    rfl)
   exact this
  refine ⟨_,rfl,_,_,rfl,rfl,⟨by decide,by decide⟩,_,_,rfl,rfl,(by show (0:Int)<2; decide),rfl,_,rfl,ite2 (fun h4=>?_) (fun h4=>?_)⟩
  ·have e4:c/15%2=1:=V.int.inj (of_decide_eq_true h4)
   obtain ⟨xs,hx1,hx2,hx3⟩:=hd5.rev
   have sb:∀ {b:Addr} {o:HO},H5 b=some o→b≠d→upd H5 d (.lst xs.reverse) b=some o:=fun h nb=>by rw [upd_ne nb]; exact h
   refine ⟨_,rfl,.inl ⟨rfl,_,SqL.of hx1⟩,d,xs,rfl,rfl,hx1,?_⟩
   refine ⟨_,rfl,l,_,_,_,rfl,rfl,SqL.of (sb hl5 n1),r0,_,rfl,_,rfl,_,rfl,by show 4≤sizeLine; decide,fun t ht=>?_⟩
   refine q t e d m _ (fun b o h=>smu ht _ _ (by rw [upd_ne (ne_of_none h hd0)]; exact s5 _ _ h)) (nn _ (.inl rfl)).2 hd0 (nn _ (.inr rfl)).2 upd_same (smu ht _ _ (sb he5 (nn _ (.inl rfl)).1)) ?_ (smu ht _ _ (sb hm5 (nn _ (.inr rfl)).1))
   unfold doorsBy
   rw [if_pos e4]
   exact hx3.same (smu ht)
  ·have e4:¬ c/15%2=1:=fun z=>h4 (decide_eq_true (congrArg V.int z))
   refine ⟨_,rfl,l,_,_,_,rfl,rfl,SqL.of hl5,r0,_,rfl,_,rfl,_,rfl,by show 4≤sizeLine; decide,fun t ht=>?_⟩
   refine q t e d m _ (s5.trans (smu ht)) (nn _ (.inl rfl)).2 hd0 (nn _ (.inr rfl)).2 upd_same (smu ht _ _ he5) ?_ (smu ht _ _ hm5)
   unfold doorsBy
   rw [if_neg e4]
   exact hd5.same (smu ht)
end
end K14
namespace K14
open PySem L2 Ky
seal L2.PE L2.PS L2.PSs L2.PA L2.PT L2.PW L2.PG L2.PI L2.PTs L2.PO L2.OpR L2.IxR L2.CallR L2.MtM L2.MtR
unseal L2.MtM L2.MtR
inductive RowAt (H:Hp) (t:Addr) (c:Int) (n:Nat) (ss:List Str):Prop
 | mk (e d m:Addr) (h0_:H t=some (.tup [.str (roomAt c 0),.ref e,.ref d,.ref m])) (h1_:H e=some (.lst ((endsBy c n).map V.str))) (h2_:DoorsAt H d (doorsBy c ss n)) (h3_:H m=some (.lst ((moreBy c ss).map V.str)))
structure PlantAt (H:Hp) (p:Addr) (l:List (Int×Nat)) (ss:List Str):Prop where
 ex:∃ ts:List Addr,H p=some (.lst (ts.map V.ref))∧ts.length=l.length∧∀ (i:Nat) (t:Addr) (x:Int×Nat),ts[i]?=some t→l[i]?=some x→RowAt H t x.1 x.2 ss
noncomputable def z1 (c:Int):Nat:=1+(c/7%5).toNat
noncomputable def z2 (c:Int):Nat:=1+(c/7%3).toNat
noncomputable def z3 (c:Int):Nat:=1+(c/7%2).toNat
noncomputable def manyP (c:Int):Nat:=([1,2,2,3]:List Nat).getD (c/35%4).toNat 1
noncomputable def rowsP (c1 c2 c3:Int):List (Int×Nat):=[(c1,z1 c1),(c2,z2 c2),(c3,z3 c3)]
noncomputable def plant (c1 c2 c3:Int):List (Int×Nat):=(rowsP c1 c2 c3).take (manyP c1)
theorem manyP_all:∀ n,n<4→1≤([1,2,2,3]:List Nat).getD n 1∧([1,2,2,3]:List Nat).getD n 1≤3∧([1,2,2,3]:List Int).getD n 1=((([1,2,2,3]:List Nat).getD n 1:Nat):Int):=by decide +kernel
theorem manyP_le (c:Int):1≤manyP c∧manyP c≤3∧([1,2,2,3]:List Int).getD (c/35%4).toNat 1=((manyP c:Nat):Int):=by
 have h:=emod_in (c/35) (m:=4) (by decide)
 exact manyP_all _ (by omega)
theorem zs_le (c1 c2 c3:Int):∀ x∈rowsP c1 c2 c3,1≤x.2∧x.2≤5:=by
 have h1:=emod_in (c1/7) (m:=5) (by decide)
 have h2:=emod_in (c2/7) (m:=3) (by decide)
 have h3:=emod_in (c3/7) (m:=2) (by decide)
 intro x hx
 rcases List.mem_cons.mp hx with rfl | hx
 ·exact ⟨by show 1≤z1 c1; unfold z1; omega,by show z1 c1≤5; unfold z1; omega⟩
 rcases List.mem_cons.mp hx with rfl | hx
 ·exact ⟨by show 1≤z2 c2; unfold z2; omega,by show z2 c2≤5; unfold z2; omega⟩
 rcases List.mem_cons.mp hx with rfl | hx
 ·exact ⟨by show 1≤z3 c3; unfold z3; omega,by show z3 c3≤5; unfold z3; omega⟩
 cases hx
theorem rowsP_at (c1 c2 c3:Int) (i:Nat) (h:i<3):∃ x:Int×Nat,(rowsP c1 c2 c3)[i]?=some x∧atI ([c1,c2,c3].map V.int) (i:Int)=some (.int x.1)∧atI ([z1 c1,z2 c2,z3 c3].map fun n:Nat=>V.int n) (i:Int)=some (.int x.2):=by
 match i,h with
 | 0,_=>exact ⟨_,rfl,rfl,rfl⟩
 | 1,_=>exact ⟨_,rfl,rfl,rfl⟩
 | 2,_=>exact ⟨_,rfl,rfl,rfl⟩
inductive RowN (D:Addr) (H:Hp) (t:Addr) (c:Int) (n:Nat) (ss:List Str):Prop
 | mk (e d m:Addr) (h0_:H t=some (.tup [.str (roomAt c 0),.ref e,.ref d,.ref m])) (h1_:H e=some (.lst ((endsBy c n).map V.str))) (h2_:DoorsAt H d (doorsBy c ss n)) (h3_:H m=some (.lst ((moreBy c ss).map V.str))) (h4_:e≠D) (h5_:d≠D) (h6_:m≠D)
theorem RowN.same {D:Addr} {H H':Hp} {t:Addr} {c:Int} {n:Nat} {ss:List Str} (R:RowN D H t c n ss) (sm:Same H H'):RowN D H' t c n ss:=by
 obtain ⟨e,d,m,h0,h1,h2,h3,h4,h5,h6⟩:=R
 exact ⟨e,d,m,sm _ _ h0,sm _ _ h1,h2.same sm,sm _ _ h3,h4,h5,h6⟩
theorem RowN.put {H:Hp} {t D:Addr} {c:Int} {n:Nat} {ss:List Str} {ys:List V} (R:RowN D H t c n ss) (hD:∃ xs,H D=some (.lst xs)):RowN D (upd H D (.lst ys)) t c n ss:=by
 obtain ⟨e,d,m,h0,h1,h2,h3,h4,h5,h6⟩:=R
 obtain ⟨xs,hD⟩:=hD
 obtain ⟨ts,b1,b2,b3⟩:=h2.ex
 refine ⟨e,d,m,by rw [upd_ne (fun z=>by rw [z,hD] at h0; cases h0)]; exact h0,by rw [upd_ne h4]; exact h1,⟨ts,by rw [upd_ne h5]; exact b1,b2,fun i u x hu hx=>?_⟩,by rw [upd_ne h6]; exact h3,h4,h5,h6⟩
 have:=b3 i u x hu hx
 rw [upd_ne (fun z=>by rw [z,hD] at this; cases this)]
 exact this
theorem RowN.row {D:Addr} {H:Hp} {t:Addr} {c:Int} {n:Nat} {ss:List Str} (R:RowN D H t c n ss):RowAt H t c n ss:=by
 obtain ⟨e,d,m,h0,h1,h2,h3,_⟩:=R
 exact ⟨e,d,m,h0,h1,h2,h3⟩
inductive spPlantBy (K:PySem.W.Frag) (vs:List V) (H:Hp) (Q:VK) (E:XK):Prop
 | mk (a b:Addr) (c1 c2 c3:Int) (ss:List Str) (h0_:vs=[.ref a,.ref b]) (h1_:SqL K H a ([c1,c2,c3].map V.int)) (h2_:SqL K H b (ss.map V.str)) (h3_:ss.length≤12)
  (h4_:∀ (p:Addr) H',Same H H'→PlantAt H' p (plant c1 c2 c3) ss→Q (.ref p) H')
section
variable {P:Program} {w:World} {K:PySem.W.Frag} {mg:Str→Option Value} {base:Heap}
noncomputable abbrev NPB:List Str:=["_law_cells","_law_names","_law_sizes"]
theorem scPB:FnScope NPB ["_law_cells","_law_names"] (defScope sPlantBy):=⟨rfl,rfl,rfl,by decide +kernel,rfl,by decide +kernel,by decide +kernel⟩
noncomputable abbrev nd5:List Str:=["_law_k","_law_cells","_law_names","_law_sizes"]
theorem ok_plantBy {f fB:Addr} {fd fdB:FuncData} (F:Fun K "_law_plant_by" "_law_plant_by" sPlantBy f fd) (T:Txt K mg)
  (GB:FnOk P w K mg base CX0 2 fB fdB ["_law_cell","_law_names","_law_many"] (spMachineBy K)) (kB:PySem.W.keepIn K (.ref fB)=true) (bB:Binds K fdB ["_law_cell","_law_names","_law_many"] []) (mB:mg "_law_machine_by" = some (.ref fB)) :
  FnOk P w K mg base CX0 3 f fd ["_law_cells","_law_names"] (spPlantBy K):=by
 refine F.ok scPB (fun vs H Q E h=>?_) (fun cdv A outer s H vs Q E hr h=>?_)
 ·obtain ⟨a,b,c1,c2,c3,ss,rfl,_⟩:=h
  rfl
 ·obtain ⟨a,b,c1,c2,c3,ss,rfl,hA,hB,hs12,q⟩:=h
  refine ⟨_,pss_cons (ps_set (i:=2) scPB.nd rfl (Or.inr rfl) (pe_lst (pac (pe_op op_add pe_int (pe_op op_mod (pe_op op_fdiv (pe_ix ix_list (pv 0) pe_int (fun _ _=>rfl)) pe_int) pe_int))
    (pac (pe_op op_add pe_int (pe_op op_mod (pe_op op_fdiv (pe_ix ix_list (pv 0) pe_int (fun _ _=>rfl)) pe_int) pe_int))
    (pac (pe_op op_add pe_int (pe_op op_mod (pe_op op_fdiv (pe_ix ix_list (pv 0) pe_int (fun _ _=>rfl)) pe_int) pe_int)) pa_nil)))))
   (pss_one (ps_ret (pe_comp (N':=nd5) (nown:=1) (js:=[0,1,2]) rfl
     ⟨rfl,by decide +kernel,by decide +kernel⟩ (blkNames (defScope sPlantBy) NPB rfl rfl (by decide +kernel))
     ⟨fun _ _ _ _=>pg_name (i:=0) (show List.Nodup nd5 by decide +kernel) rfl (Or.inl rfl) (.inr rfl),fun _ _ _ _=>pts_nil,
      fun _ _ _ _=>pe_call GB hr rfl mB kB bB .nil pass0 (pac (pe_ix (show IxR _ (rIxL K) from ix_list) (pv 1) (pv 0) (fun _ _=>rfl)) (pac (pv 2) (pac (pe_ix (show IxR _ (rIxL K) from ix_list) (pv 3) (pv 0) (fun _ _=>rfl)) pa_nil)))⟩
     (pi_range1 rfl T.range (pac (pe_ix ix_list (pe_lst (pac pe_int (pac pe_int (pac pe_int (pac pe_int pa_nil))))) (pe_op op_mod (pe_op op_fdiv (pe_ix ix_list (pv 0) pe_int (fun _ _=>rfl)) pe_int) pe_int) (fun _ _=>rfl)) pa_nil))))),?_⟩
  have g1:=emod_in (c1/7) (m:=5) (by decide)
  have g2:=emod_in (c2/7) (m:=3) (by decide)
  have g3:=emod_in (c3/7) (m:=2) (by decide)
  have g4:=emod_in (c1/35) (m:=4) (by decide)
  have hm:=manyP_le c1
  refine ⟨_,rfl,a,_,_,.int c1,rfl,rfl,hA,rfl,_,_,rfl,rfl,⟨by decide,by decide⟩,_,_,rfl,rfl,(by show (0:Int)<5; decide),_,_,rfl,rfl,_,rfl,a,_,_,.int c2,rfl,rfl,hA,rfl,_,_,rfl,rfl,⟨by decide,by decide⟩,_,_,rfl,rfl,(by show (0:Int)<3; decide),_,_,rfl,rfl,_,rfl,a,_,_,.int c3,rfl,rfl,hA,rfl,_,_,rfl,rfl,⟨by decide,by decide⟩,_,_,rfl,rfl,(by show (0:Int)<2; decide),_,_,rfl,rfl,by show 3≤sizeLine; decide,fun p1 hp1=>?_⟩
  have e1:(upd H p1 (.lst [.int (1+c1/7%5),.int (1+c2/7%3),.int (1+c3/7%2)])) p1=some (.lst ([z1 c1,z2 c2,z3 c3].map fun n:Nat=>V.int n)):=by
   rw [upd_same]
   have a1:1+c1/7%5=((z1 c1:Nat):Int):=by unfold z1; omega
   have a2:1+c2/7%3=((z2 c2:Nat):Int):=by unfold z2; omega
   have a3:1+c3/7%2=((z3 c3:Nat):Int):=by unfold z3; omega
   rw [a1,a2,a3]
   rfl
  have s1:Same H (upd H p1 (.lst [.int (1+c1/7%5),.int (1+c2/7%3),.int (1+c3/7%2)])):=smu hp1
  generalize upd H p1 (.lst [.int (1+c1/7%5),.int (1+c2/7%3),.int (1+c3/7%2)])=H1 at e1 s1 ⊢
  have hat:atI ([1,2,2,3].map V.int) (c1/35%4)=some (.int ((manyP c1:Nat):Int)):=by rw [← hm.2.2]; exact atI_getD V.int [1,2,2,3] 1 g4.1 g4.2
  refine ⟨by show 4≤sizeLine; decide,fun p2 hp2=>⟨_,rfl,a,_,_,.int c1,rfl,rfl,(s1.trans (smu hp2)).seq hA,rfl,_,_,rfl,rfl,⟨by decide,by decide⟩,_,_,rfl,rfl,(by show (0:Int)<4; decide),p2,_,_,_,rfl,rfl,SqL.of upd_same,hat,_,rfl,by omega,by omega,?_⟩⟩
  have s2:=s1.trans (smu (o:=.lst ([1,2,2,3].map V.int)) hp2)
  have e2:=smu (o:=.lst ([1,2,2,3].map V.int)) hp2 _ _ e1
  intro D hD
  refine blk_range (n:=manyP c1) (fun i σ' H'=>∃ v,σ'=[v,some (.ref a),some (.ref b),some (.ref p1)]∧(∃ ts:List Addr,H' D=some (.lst (ts.map V.ref))∧ts.length=i∧∀ (j:Nat) (t:Addr) (x:Int×Nat),ts[j]?=some t→(rowsP c1 c2 c3)[j]?=some x→RowN D H' t x.1 x.2 ss)∧∀ b o,b≠D→upd H1 p2 (.lst ([1,2,2,3].map V.int)) b=some o→H' b=some o) ?_ ?_ ?_
  ·exact ⟨none,rfl,⟨[],upd_same,rfl,fun j t x h=>by cases h⟩,fun b o n h=>by rw [upd_ne n]; exact h⟩
  ·rintro i σ' H' hi ⟨v,rfl,⟨ts,t1,t2,t3⟩,k⟩
   obtain ⟨x,hx0,hx1,hx2⟩:=rowsP_at c1 c2 c3 i (by omega)
   have hxz:=zs_le c1 c2 c3 x (List.mem_of_getElem? hx0)
   have sq:∀ {p:Addr} {xs:List V},SqL K (upd H1 p2 (.lst ([1,2,2,3].map V.int))) p xs→SqL K H' p xs:=fun {p xs} h=>by
    rcases h with (h | ⟨o,h⟩) | h
    ·exact .inl (.inl (k _ _ (ne_of_none h hD) h))
    ·exact .inl (.inr ⟨o,k _ _ (ne_of_none h hD) h⟩)
    ·exact .inr h
   refine ⟨_,rfl,_,rfl,a,_,_,.int x.1,rfl,rfl,sq (s2.seq hA),by rw [Int.zero_add]; exact hx1,_,rfl,_,rfl,_,rfl,p1,_,_,.int x.2,rfl,rfl,sq (SqL.of e2),by rw [Int.zero_add]; exact hx2,x.1,b,x.2,ss,rfl,sq (s2.seq hB),hxz.1,hxz.2,hs12,fun t e d m H3 s3 he hd hm' ht he3 hd3 hm3=>?_⟩
   have t13:=s3 _ _ t1
   refine ⟨_,t13,small1000 (by rw [List.length_map]; omega),_,rfl,⟨ts++[t],by rw [upd_same,List.map_append]; rfl,by rw [List.length_append,t2]; rfl,fun j u y hu hy=>?_⟩,fun b o n h=>by rw [upd_ne n]; exact s3 _ _ (k b o n h)⟩
   by_cases hj:j<ts.length
   ·rw [List.getElem?_append_left hj] at hu
    exact ((t3 j u y hu hy).same s3).put ⟨_,t13⟩
   ·have hl:j=ts.length:=by
     have:=(List.getElem?_eq_some_iff.mp hu).1
     rw [List.length_append] at this
     simp only [List.length_cons,List.length_nil] at this
     omega
    subst hl
    rw [List.getElem?_append_right (Nat.le_refl _),Nat.sub_self] at hu
    cases hu
    rw [t2,hx0] at hy
    cases hy
    have nD:∀ {p:Addr},H' p=none→p≠D:=fun h z=>by rw [z,t1] at h; cases h
    exact (RowN.mk e d m ht he3 hd3 hm3 (nD he) (nD hd) (nD hm')).put ⟨_,t13⟩
  ·rintro σ' H' ⟨v,rfl,⟨ts,t1,t2,t3⟩,k⟩
   refine q D H' (fun b o h=>k _ _ (ne_of_none h (s2.free hD)) (s2 _ _ h)) ⟨ts,t1,?_,fun j t x hj hx=>?_⟩
   ·rw [t2]
    unfold plant
    rw [List.length_take]
    show _=min (manyP c1) 3
    omega
   ·unfold plant at hx
    have hjl:j<manyP c1:=by rw [← t2]; exact (List.getElem?_eq_some_iff.mp hj).1
    rw [List.getElem?_take_of_lt hjl] at hx
    exact (t3 j t x hj hx).row
end
end K14
namespace K14
open PySem L2 Ky
seal L2.PE L2.PS L2.PSs L2.PA L2.PT L2.PW L2.PG L2.PI L2.PTs L2.PO L2.OpR L2.IxR L2.CallR L2.MtM L2.MtR
unseal L2.MtM L2.MtR
theorem unl_in {rs:List Str} {z:Str}:z∈unl rs []↔z∈rs:=by
 rw [unl_mem]
 exact ⟨fun h=>h.elim (fun h=>nomatch h) id,.inr⟩
theorem keys_put (k:List (Key×V)) (l:List Str) (s:Str) (v:V) (h:k.map (·.1)=l.map Sum.inr):(putK k (Sum.inr s) v).map (·.1)=(if s∈l then l else l++[s]).map Sum.inr:=by
 unfold putK
 rw [any_keys,h]
 have m:(k.map fun kv=>if kv.1=(Sum.inr s:Key) then (kv.1,v) else kv).map (·.1)=k.map (·.1):=by
  rw [List.map_map]
  refine List.map_congr_left fun p _=>?_
  show (if p.1=_ then (p.1,v) else p).1=p.1
  split <;> rfl
 by_cases q:s∈l
 ·rw [if_pos q,if_pos (by rw [List.any_eq_true]; exact ⟨_,List.mem_map.mpr ⟨s,q,rfl⟩,decide_eq_true rfl⟩),m,h]
 ·rw [if_neg q,if_neg fun z=>by
   obtain ⟨x,hx,e⟩:=List.any_eq_true.mp z
   obtain ⟨y,hy,rfl⟩:=List.mem_map.mp hx
   exact q (Sum.inr.inj (of_decide_eq_true e)▸hy),List.map_append,h,List.map_append]
  rfl
theorem mks_unl:∀ (ss:List Str) (k:List (Key×V)) (l:List Str),k.map (·.1)=l.map Sum.inr→(mks ss k).map (·.1)=(unl ss l).map Sum.inr
 | [],k,l,h=>h
 | s::r,k,l,h=>mks_unl r _ _ (keys_put k l s _ h)
theorem mks_keysU {kvs:List (Key×V)} {rs:List Str} (h:kvs.map (·.1)=(mks rs []).map (·.1)):kvs.map (fun kv=>L2.kV kv.1)=(unl rs []).map V.str:=by
 have e:kvs.map (fun kv=>L2.kV kv.1)=(kvs.map (·.1)).map L2.kV:=by rw [List.map_map]; rfl
 rw [e,h,mks_unl rs [] [] rfl,List.map_map]
 rfl
theorem mks_someU:∀ (fs:List Str) (kvs:List (Key×V)) (z:Str),(valV (mks fs kvs) (Sum.inr z)).isSome=(decide (z∈fs)||(valV kvs (Sum.inr z)).isSome)
 | [],kvs,z=>by simp [mks]
 | s::r,kvs,z=>by
  rw [mks,mks_someU r,valV_put]
  by_cases h:z=s
  ·subst h
   simp
  ·rw [if_neg fun e=>h (Sum.inr.inj e)]
   simp [h]
theorem keys_some {kvs:List (Key×V)} {rs:List Str} (h:kvs.map (·.1)=(mks rs []).map (·.1)) (z:Str):(valV kvs (Sum.inr z)).isSome=decide (z∈rs):=by
 have:=mks_someU rs [] z
 rw [show (valV ([]:List (Key×V)) (Sum.inr z)).isSome=false from rfl,Bool.or_false] at this
 rw [← this,← valV_any,← valV_any,any_keys,any_keys,h]
theorem unl_small {rs N:List Str} (h:∀ z∈rs,z∈N):(unl rs []).length≤N.length:=by
 have:∀ (l m:List Str),l.Nodup→(∀ z∈l,z∈m)→l.length≤m.length:=fun l m hd hs=>by
  induction l generalizing m with
  | nil=>exact Nat.zero_le _
  | cons x r ih=>
   have hn:=List.nodup_cons.mp hd
   have h1:=ih (m.erase x) hn.2 (fun z hz=>(List.mem_erase_of_ne (fun (e:z=x)=>hn.1 (e▸hz))).mpr (hs z (List.mem_cons_of_mem _ hz)))
   have hx:=hs x (List.mem_cons_self ..)
   have h2:=List.length_pos_of_mem hx
   rw [List.length_erase_of_mem hx] at h1
   simp only [List.length_cons]
   omega
 exact this _ _ (unl_nodup _ _ .nil) fun z hz=>h z (unl_in.mp hz)
theorem unl_same {rs ts:List Str} (h:∀ z,z∈rs↔z∈ts):(unl rs []).Perm (unl ts []):=perm_of_sub (unl_nodup _ _ .nil) (fun z hz=>unl_in.mpr ((h z).mp (unl_in.mp hz))) (unl_small fun z hz=>unl_in.mpr ((h z).mpr hz))
inductive spMDeeds (CM:Addr) (vs:List V) (H:Hp) (Q:VK) (E:XK):Prop
 | mk (x dd:Addr) (b:Str) (es kn:List Str) (ds:List Dr) (h0_:vs=[.ref x]) (h1_:MM CM H x dd b es kn ds) (h2_:Q (.ref dd) H)
inductive spMSort (CM:Addr) (f:Str→List Str→List Str→List Dr→List Str) (vs:List V) (H:Hp) (Q:VK) (E:XK):Prop
 | mk (x dd:Addr) (b:Str) (es kn:List Str) (ds:List Dr) (h0_:vs=[.ref x]) (h1_:MM CM H x dd b es kn ds) (h2_:(unl (f b es kn ds) []).length<64)
  (h3_:∀ (l:Addr) (ts:List Str) H',Same H H'→H l=none→H' l=some (.lst (ts.map V.str))→PyProof.Rows.sortedS ts=true→ts.Perm (unl (f b es kn ds) [])→Q (.ref l) H')
noncomputable abbrev goodR (b:Str) (es:List Str) (ds:List Dr) (z:Str):Prop:=isNameS z=true∧z∈roomsOf b es ds
inductive spMReqE (CM cR:Addr) (vs:List V) (H:Hp) (Q:VK) (E:XK):Prop
 | mk (x dd:Addr) (b z:Str) (es kn:List Str) (ds:List Dr) (h0_:vs=[.ref x,.str z]) (h1_:MM CM H x dd b es kn ds) (h2_:z.length≤1000) (h3_:goodR b es ds z→∀ H',Same H H'→Q .non H') (h4_:¬ goodR b es ds z→∀ H',Same H H'→E (.ref cR) none H')
inductive spMAtE (CM cR:Addr) (vs:List V) (H:Hp) (Q:VK) (E:XK):Prop
 | mk (x dd:Addr) (b z:Str) (es kn:List Str) (ds:List Dr) (N:List Str) (h0_:vs=[.ref x,.str z]) (h1_:MM CM H x dd b es kn ds) (h2_:z.length≤1000) (h4_:Apart ds) (h5_:∀ x∈ds,x.2.1∈N) (h6_:N.length<64)
  (h7_:goodR b es ds z→∀ (l:Addr) (ts:List Str) H',Same H H'→H l=none→H' l=some (.lst (ts.map V.str))→PyProof.Rows.sortedS ts=true→ts.Perm (deedsAt ds z)→Q (.ref l) H') (h8_:¬ goodR b es ds z→∀ H',Same H H'→E (.ref cR) none H')
inductive spMToE (C CM cR cD:Addr) (vs:List V) (H:Hp) (Q:VK) (E:XK):Prop
 | mk (x dd:Addr) (b z:Str) (y:V) (es kn:List Str) (ds:List Dr) (wk:List (Key×V)) (h0_:vs=[.ref x,.str z,y]) (h1_:MM CM H x dd b es kn ds) (h2_:z.length≤1000) (h4_:WAt C H dd wk) (h5_:Thing y)
  (h6_:goodR b es ds z→goodV wk y=true→∀ (u:Str) H',y=.str u→Same H H'→Q (oV (doorTo ds z u)) H') (h7_:goodR b es ds z→goodV wk y=false→∀ H',Same H H'→E (.ref cD) none H') (h8_:¬ goodR b es ds z→∀ H',Same H H'→E (.ref cR) none H')
inductive spMIsEndE (CM cR:Addr) (vs:List V) (H:Hp) (Q:VK) (E:XK):Prop
 | mk (x dd:Addr) (b z:Str) (es kn:List Str) (ds:List Dr) (h0_:vs=[.ref x,.str z]) (h1_:MM CM H x dd b es kn ds) (h2_:z.length≤1000) (h3_:goodR b es ds z→∀ H',Same H H'→Q (.bl (decide (z∈es))) H') (h4_:¬ goodR b es ds z→∀ H',Same H H'→E (.ref cR) none H')
section
variable {P:Program} {w:World} {K:PySem.W.Frag} {mg:Str→Option Value} {base:Heap}
theorem scMD:FnScope ["self"] ["self"] (defScope mDeeds):=⟨rfl,rfl,rfl,by decide +kernel,rfl,by decide +kernel,by decide +kernel⟩
theorem ok_mDeeds {f CM:Addr} {fd:FuncData} (F:Fun K "deeds" "Machine.deeds" mDeeds f fd) (MC:MCls K CM):FnOk P w K mg base CX0 1 f fd ["self"] (spMDeeds CM):=by
 refine F.ok scMD (fun vs H Q E h=>?_) (fun cdv A outer s H vs Q E hr h=>?_)
 ·obtain ⟨x,dd,b,es,kn,ds,rfl,_⟩:=h
  rfl
 ·obtain ⟨x,dd,b,es,kn,ds,rfl,⟨dx,l,e,k,kvs,g,M⟩,q⟩:=h
  exact ⟨_,pss_one (ps_ret (pe_fld (pv 0) rfl)),_,rfl,x,CM,dx,_,_,rfl,M.ins,MC.cl,MC.nd,by rfl,q⟩
theorem scMB:FnScope ["self"] ["self"] (defScope mBegin):=⟨rfl,rfl,rfl,by decide +kernel,rfl,by decide +kernel,by decide +kernel⟩
theorem ok_mBegin {f CM:Addr} {fd:FuncData} (F:Fun K "begin" "Machine.begin" mBegin f fd) (MC:MCls K CM):FnOk P w K mg base CX0 1 f fd ["self"] (spMBegin CM):=by
 refine F.ok scMB (fun vs H Q E h=>?_) (fun cdv A outer s H vs Q E hr h=>?_)
 ·obtain ⟨x,dd,b,es,kn,ds,rfl,_⟩:=h
  rfl
 ·obtain ⟨x,dd,b,es,kn,ds,rfl,⟨dx,l,e,k,kvs,g,M⟩,q⟩:=h
  exact ⟨_,pss_one (ps_ret (pe_fld (pv 0) rfl)),_,rfl,x,CM,dx,_,_,rfl,M.ins,MC.cl,MC.nf,by rfl,q⟩
noncomputable abbrev fRooms (b:Str) (es _kn:List Str) (ds:List Dr):List Str:=roomsOf b es ds
noncomputable abbrev fEnds (_b:Str) (es _kn:List Str) (_ds:List Dr):List Str:=es
noncomputable abbrev fKnows (_b:Str) (_es kn:List Str) (_ds:List Dr):List Str:=kn
theorem scMRo:FnScope ["self"] ["self"] (defScope mRooms):=⟨rfl,rfl,rfl,by decide +kernel,rfl,by decide +kernel,by decide +kernel⟩
theorem ok_mRooms {f CM:Addr} {fd:FuncData} (F:Fun K "rooms" "Machine.rooms" mRooms f fd) (T:Txt K mg) (MC:MCls K CM):FnOk P w K mg base CX0 1 f fd ["self"] (spMSort CM fRooms):=by
 refine F.ok scMRo (fun vs H Q E h=>?_) (fun cdv A outer s H vs Q E hr h=>?_)
 ·obtain ⟨x,dd,b,es,kn,ds,rfl,_⟩:=h
  rfl
 ·obtain ⟨x,dd,b,es,kn,ds,rfl,⟨dx,l,e,k,kvs,g,M⟩,h64,q⟩:=h
  refine ⟨_,pss_one (ps_ret (pe_callB (call_sortedD rfl) (by rfl) T.sorted Bo.sorted (pac (pe_fld (pv 0) rfl) pa_nil))),?_⟩
  exact ⟨_,rfl,x,CM,dx,_,_,rfl,M.ins,MC.cl,MC.nl,by rfl,l,_,_,rfl,M.lead.dk,mks_keysU M.lead.keys,h64,fun p ts' hp pm so=>q p ts' _ (smu hp) hp upd_same so pm⟩
theorem scMEn:FnScope ["self"] ["self"] (defScope mEnds):=⟨rfl,rfl,rfl,by decide +kernel,rfl,by decide +kernel,by decide +kernel⟩
theorem ok_mEnds {f CM:Addr} {fd:FuncData} (F:Fun K "ends" "Machine.ends" mEnds f fd) (T:Txt K mg) (MC:MCls K CM):FnOk P w K mg base CX0 1 f fd ["self"] (spMSort CM fEnds):=by
 refine F.ok scMEn (fun vs H Q E h=>?_) (fun cdv A outer s H vs Q E hr h=>?_)
 ·obtain ⟨x,dd,b,es,kn,ds,rfl,_⟩:=h
  rfl
 ·obtain ⟨x,dd,b,es,kn,ds,rfl,⟨dx,l,e,k,kvs,g,M⟩,h64,q⟩:=h
  refine ⟨_,pss_one (ps_ret (pe_callB (call_sortedD rfl) (by rfl) T.sorted Bo.sorted (pac (pe_fld (pv 0) rfl) pa_nil))),?_⟩
  exact ⟨_,rfl,x,CM,dx,_,_,rfl,M.ins,MC.cl,MC.ne,by rfl,e,_,_,rfl,M.ends,mks_keysU rfl,h64,fun p ts' hp pm so=>q p ts' _ (smu hp) hp upd_same so pm⟩
theorem scMK:FnScope ["self"] ["self"] (defScope mKnows):=⟨rfl,rfl,rfl,by decide +kernel,rfl,by decide +kernel,by decide +kernel⟩
theorem ok_mKnows {f CM:Addr} {fd:FuncData} (F:Fun K "knows" "Machine.knows" mKnows f fd) (T:Txt K mg) (MC:MCls K CM):FnOk P w K mg base CX0 1 f fd ["self"] (spMSort CM fKnows):=by
 refine F.ok scMK (fun vs H Q E h=>?_) (fun cdv A outer s H vs Q E hr h=>?_)
 ·obtain ⟨x,dd,b,es,kn,ds,rfl,_⟩:=h
  rfl
 ·obtain ⟨x,dd,b,es,kn,ds,rfl,⟨dx,l,e,k,kvs,g,M⟩,h64,q⟩:=h
  refine ⟨_,pss_one (ps_ret (pe_callB (call_sortedD rfl) (by rfl) T.sorted Bo.sorted (pac (pe_fld (pv 0) rfl) pa_nil))),?_⟩
  exact ⟨_,rfl,x,CM,dx,_,_,rfl,M.ins,MC.cl,MC.nk,by rfl,k,_,_,rfl,M.know,mks_keysU rfl,h64,fun p ts' hp pm so=>q p ts' _ (smu hp) hp upd_same so pm⟩
theorem mGet {CM:Addr} {H:Hp} {x dx l dd e k:Addr} {b:Str} {es kn:List Str} {ds:List Dr} {kvs:List (Key×V)} {g:Str→Addr} (M:MAt CM H x dx l dd e k b es kn ds kvs g) {z:Str} (hz:z∈roomsOf b es ds):DGet H l (.str z) (some (.ref (g z))):=by
 have gv:=DGet.k (k:=Sum.inr z) M.lead.dk
 rw [M.lead.val z hz] at gv
 exact gv
theorem oV_get (ds:List Dr) (z y:Str):(valV (inn ds z) (Sum.inr y)).getD .non=oV (doorTo ds z y):=by rw [inn_val]; rfl
theorem scMQ:FnScope ["self","room"] ["self","room"] (defScope mReqRoom):=⟨rfl,rfl,rfl,by decide +kernel,rfl,by decide +kernel,by decide +kernel⟩
theorem ok_mReqE {f fN CM cR:Addr} {fd fdN:FuncData} (F:Fun K "require_room" "Machine.require_room" mReqRoom f fd) (T:Txt K mg) (MC:MCls K CM) (mR:mg "NoRoom" = some (.ref cR)) (xR:ExcC K cR)
  (FN:Fun K "is_name" "is_name" sName fN fdN) (bN:Binds K fdN ["thing"] []) (mN:mg "is_name" = some (.ref fN)):FnOk P w K mg base (CXE P w) 2 f fd ["self","room"] (spMReqE CM cR):=by
 have GN:FnOk P w K mg base CX0 1 fN fdN ["thing"] (spName K):=ok_name FN T
 refine okE F scMQ (fun vs H Q E h=>?_) (fun cdv A outer s H vs Q E hr h D=>?_)
 ·obtain ⟨x,dd,b,z,es,kn,ds,rfl,_⟩:=h
  rfl
 ·obtain ⟨x,dd,b,z,es,kn,ds,rfl,⟨dx,l,e,k,kvs,g,M⟩,hz,q1,q2⟩:=h
  have hu:=hu_of hr
  refine ⟨_,pss_one (ps_if (pw_or (pt_not (pt_val (pe_call GN hr (by rfl) mN FN.kp bN .nil pass0 (pac (pv 1) pa_nil)))) (pw_or1 (pt_cmp (pc_dnotin hu (pv 1) (pe_fld (pv 0) rfl))))).pt (pss_one (ps_raise D rfl (by rfl) mR xR (pac pe_str pa_nil))) pss_nil),?_⟩
  refine ⟨_,rfl,.str z,rfl,.inl ⟨z,rfl,Nat.le_of_lt (small1000 hz),fun H2 s2=>⟨_,rfl,?_⟩⟩⟩
  by_cases hn:isNameS z=true
  ·rw [hn]
   refine iteF ⟨_,rfl,_,rfl,x,CM,dx,_,_,rfl,s2 _ _ M.ins,MC.cl,MC.nl,by rfl,l,_,rfl,DGet.k (k:=Sum.inr z) (s2 _ _ M.lead.dk),_,rfl,?_⟩
   rw [keys_some M.lead.keys z]
   by_cases hm:z∈roomsOf b es ds
   ·rw [decide_eq_true hm]
    exact iteF (q1 ⟨hn,hm⟩ H2 s2)
   ·rw [decide_eq_false hm]
    exact iteT ⟨by show 1≤sizeLine; decide,q2 (fun g=>hm g.2) H2 s2⟩
  ·rw [Bool.eq_false_iff.mpr hn]
   exact iteT ⟨by show 1≤sizeLine; decide,q2 (fun g=>hn g.1) H2 s2⟩
theorem scMA:FnScope ["self","room"] ["self","room"] (defScope mAt):=⟨rfl,rfl,rfl,by decide +kernel,rfl,by decide +kernel,by decide +kernel⟩
theorem ok_mAtE {f fR CM cR:Addr} {fd fdR:FuncData} (F:Fun K "at" "Machine.at" mAt f fd) (T:Txt K mg) (MC:MCls K CM)
  (GR:FnOk P w K mg base (CXE P w) 2 fR fdR ["self","room"] (spMReqE CM cR)) (bR:Binds K fdR ["self","room"] []) (mR:Meth K CM "require_room" fR):FnOk P w K mg base (CXE P w) 3 f fd ["self","room"] (spMAtE CM cR):=by
 refine okE F scMA (fun vs H Q E h=>?_) (fun cdv A outer s H vs Q E hr h D=>?_)
 ·obtain ⟨x,dd,b,z,es,kn,ds,N,rfl,_⟩:=h
  rfl
 ·obtain ⟨x,dd,b,z,es,kn,ds,N,rfl,⟨dx,l,e,k,kvs,g,M⟩,hz,ha,hN,hl,q1,q2⟩:=h
  have hu:=hu_of hr
  refine ⟨_,pss_cons (ps_expr (pe_meth (pv 0) MC.cl mR GR hr bR .nil (D.passes fun _ _ _ z=>z) (pac (pv 1) pa_nil)))
   (pss_one (ps_ret (pe_callB (call_sortedD rfl) (by rfl) T.sorted Bo.sorted (pac (pe_dget hu (pe_fld (pv 0) rfl) (pv 1) (fun _ _=>rfl)) pa_nil)))),?_⟩
  refine ⟨_,rfl,x,dx,_,rfl,M.ins,mFlds_mth _ _ _ _ _ _ (by decide),_,rfl,x,dd,b,z,es,kn,ds,rfl,⟨dx,l,e,k,kvs,g,M⟩,hz,fun good H2 s2=>?_,fun bad H2 s2=>q2 bad H2 s2⟩
  have M2:=M.same s2
  refine ⟨_,rfl,x,CM,dx,_,_,rfl,M2.ins,MC.cl,MC.nl,by rfl,_,rfl,l,_,rfl,mGet M2 good.2,g z,_,deedsAt ds z,rfl,M2.lead.dd z good.2,inn_keys ds z,?_,fun p ts' hp pm so=>?_⟩
  ·refine Nat.lt_of_le_of_lt ?_ hl
   have hnd:=deedsAt_nodup ha z
   have:=unl_small (rs:=deedsAt ds z) (N:=N) fun y hy=>by obtain ⟨x,hx,_,rfl⟩:=deedsAt_mem.mp hy; exact hN x hx
   rw [← (perm_of_sub (m:=unl (deedsAt ds z) []) hnd (fun z hz=>unl_in.mpr hz) (unl_small fun z hz=>hz)).length_eq] at this
   exact this
  ·refine q1 good p ts' _ (s2.trans (smu hp)) ?_ upd_same so pm
   cases h:H p with
   | none=>rfl
   | some o=>rw [s2 _ _ h] at hp; cases hp
theorem scME:FnScope ["self","room"] ["self","room"] (defScope mIsEnd):=⟨rfl,rfl,rfl,by decide +kernel,rfl,by decide +kernel,by decide +kernel⟩
theorem ok_mIsEndE {f fR CM cR:Addr} {fd fdR:FuncData} (F:Fun K "is_end" "Machine.is_end" mIsEnd f fd) (MC:MCls K CM)
  (GR:FnOk P w K mg base (CXE P w) 2 fR fdR ["self","room"] (spMReqE CM cR)) (bR:Binds K fdR ["self","room"] []) (mR:Meth K CM "require_room" fR):FnOk P w K mg base (CXE P w) 3 f fd ["self","room"] (spMIsEndE CM cR):=by
 refine okE F scME (fun vs H Q E h=>?_) (fun cdv A outer s H vs Q E hr h D=>?_)
 ·obtain ⟨x,dd,b,z,es,kn,ds,rfl,_⟩:=h
  rfl
 ·obtain ⟨x,dd,b,z,es,kn,ds,rfl,⟨dx,l,e,k,kvs,g,M⟩,hz,q1,q2⟩:=h
  have hu:=hu_of hr
  refine ⟨_,pss_cons (ps_expr (pe_meth (pv 0) MC.cl mR GR hr bR .nil (D.passes fun _ _ _ z=>z) (pac (pv 1) pa_nil))) (pss_one (ps_ret (pe_cmp (pc_din hu (pv 1) (pe_fld (pv 0) rfl))))),?_⟩
  refine ⟨_,rfl,x,dx,_,rfl,M.ins,mFlds_mth _ _ _ _ _ _ (by decide),_,rfl,x,dd,b,z,es,kn,ds,rfl,⟨dx,l,e,k,kvs,g,M⟩,hz,fun good H2 s2=>?_,fun bad H2 s2=>q2 bad H2 s2⟩
  have M2:=M.same s2
  refine ⟨_,rfl,_,rfl,x,CM,dx,_,_,rfl,M2.ins,MC.cl,MC.ne,by rfl,e,_,rfl,DGet.k (k:=Sum.inr z) M2.ends,?_⟩
  rw [keys_some rfl z]
  exact q1 good H2 s2
theorem scMT:FnScope ["self","room","deed"] ["self","room","deed"] (defScope mTo):=⟨rfl,rfl,rfl,by decide +kernel,rfl,by decide +kernel,by decide +kernel⟩
theorem ok_mToE {f fR fQ C CM cR:Addr} {fd fdR fdQ:FuncData} {cl:Why→Addr} (F:Fun K "to" "Machine.to" mTo f fd) (T:Txt K mg) (DC:DCls K C) (MC:MCls K CM)
  (GR:FnOk P w K mg base (CXE P w) 2 fR fdR ["self","room"] (spMReqE CM cR)) (bR:Binds K fdR ["self","room"] []) (mR:Meth K CM "require_room" fR)
  (GQ:FnOk P w K mg base (CXE P w) 3 fQ fdQ ["self","row"] (spRequire K C cl)) (bQ:Binds K fdQ ["self","row"] []) (mQ:Meth K C "require" fQ):FnOk P w K mg base (CXE P w) 4 f fd ["self","room","deed"] (spMToE C CM cR (cl .noDeed)):=by
 refine okE F scMT (fun vs H Q E h=>?_) (fun cdv A outer s H vs Q E hr h D=>?_)
 ·obtain ⟨x,dd,b,z,y,es,kn,ds,wk,rfl,_⟩:=h
  rfl
 ·obtain ⟨x,dd,b,z,y,es,kn,ds,wk,rfl,⟨dx,l,e,k,kvs,g,M⟩,hz,hW,hy,q1,q2,q3⟩:=h
  have hu:=hu_of hr
  have hr2:Room 2 _:=hr.mono (by decide)
  refine ⟨_,pss_cons (ps_expr (pe_meth (pv 0) MC.cl mR GR hr2 bR .nil (D.passes fun _ _ _ z=>z) (pac (pv 1) pa_nil)))
   (pss_cons (ps_expr (pe_meth (pe_fld (pv 0) rfl) DC.cl mQ GQ hr bQ .nil (D.passes fun _ _ _ z=>z) (pac (pe_lst (pac (pv 2) pa_nil)) pa_nil)))
   (pss_one (ps_ret (pe_dget1 hu (pe_dget hu (pe_fld (pv 0) rfl) (pv 1) (fun _ _=>rfl)) (pv 2) ⟨by rfl,by rfl,by rfl,by rfl⟩)))),?_⟩
  refine ⟨_,rfl,x,dx,_,rfl,M.ins,mFlds_mth _ _ _ _ _ _ (by decide),_,rfl,x,dd,b,z,es,kn,ds,rfl,⟨dx,l,e,k,kvs,g,M⟩,hz,fun good H2 s2=>?_,fun bad H2 s2=>q3 bad H2 s2⟩
  have M2:=M.same s2
  obtain ⟨wx,wf,ww,wo,hw0,hw1,hw2,hw3⟩:=hW
  refine ⟨_,rfl,x,CM,dx,_,_,rfl,M2.ins,MC.cl,MC.nd,by rfl,dd,wx,wf,rfl,s2 _ _ hw0,hw1 "require" (by decide),_,rfl,by show 1≤sizeLine; decide,fun p hp=>?_⟩
  have s3:=s2.trans (smu (o:=.lst [y]) hp)
  refine ⟨dd,p,_,wk,rfl,SqL.of upd_same,fun v hv=>?_,⟨wx,wf,ww,wo,s3 _ _ hw0,hw1,hw2,s3 _ _ hw3⟩,fun H4 s4=>?_⟩
  ·rw [List.mem_singleton.mp hv]
   exact hy
  ·have e1:([y]:List V).all (goodV wk)=goodV wk y:=by rw [List.all_cons,List.all_nil,Bool.and_true]
   rw [e1]
   by_cases hg:goodV wk y=true
   ·rw [if_pos hg]
    obtain ⟨u,rfl⟩:∃ u,y=.str u:=by
     cases y with
     | str u=>exact ⟨u,rfl⟩
     | _=>cases hg
    have M4:=M.same (s3.trans s4)
    refine ⟨_,rfl,x,CM,dx,_,_,rfl,M4.ins,MC.cl,MC.nl,by rfl,_,rfl,l,_,rfl,mGet M4 good.2,g z,rfl,?_,_,rfl,_,DGet.k (k:=Sum.inr u) (M4.lead.dd z good.2),?_⟩
    ·exact .inl ⟨_,.inl (M4.lead.dd z good.2)⟩
    ·rw [oV_get]
     exact q1 good hg u H4 rfl (s3.trans s4)
   ·rw [if_neg hg]
    exact q2 good (Bool.eq_false_iff.mpr hg) H4 (s3.trans s4)
end
end K14
namespace K14
open PySem L2 Ky
seal L2.PE L2.PS L2.PSs L2.PA L2.PT L2.PW L2.PG L2.PI L2.PTs L2.PO L2.OpR L2.IxR L2.CallR L2.MtM L2.MtR
theorem dr_spec {c:Int} {kn rs nm:List Str} {n i k:Nat} {x:Dr} (h:dr c kn rs nm n i k=some x):rs[i]?=some x.1∧nm[k]?=some x.2.1∧x.2.1∈kn∧x.2.2=rs.getD (drw c i k/3%n).toNat "":=by
 unfold dr at h
 split at h
 ·rename_i r d hr hd
  by_cases q:(decide (d∈kn)&&decide (drw c i k%3>0))=true
  ·rw [if_pos q] at h
   cases h
   exact ⟨hr,hd,of_decide_eq_true (Bool.and_eq_true_iff.mp q).1,rfl⟩
  ·rw [if_neg q] at h
   cases h
 ·cases h
theorem roomAt_tab (c:Int) (k:Nat):∃ T:List Str,T.length=5∧T.all isNameS=true∧T.Nodup∧∀ j:Nat,T[((c/5+j)%5).toNat]?=some (roomAt c j):=by
 have g:=emod_in c (m:=5) (by decide)
 have t:=tabs5 (c%5).toNat (by omega)
 refine ⟨tabs.getD (c%5).toNat [],t.1,t.2.1,t.2.2,fun j=>?_⟩
 have g':=emod_in (c/5+(j:Int)) (m:=5) (by decide)
 unfold roomAt
 generalize tabs.getD (c%5).toNat []=T at t ⊢
 rw [List.getD_eq_getElem?_getD,List.getElem?_eq_getElem (by rw [t.1]; omega)]
 rfl
theorem roomAt_name (c:Int) (k:Nat):isNameS (roomAt c k)=true:=by
 obtain ⟨T,_,h2,_,h4⟩:=roomAt_tab c k
 exact List.all_eq_true.mp h2 _ (List.mem_of_getElem? (h4 k))
theorem roomsBy_name {c:Int} {n:Nat}:∀ z∈roomsBy c n,isNameS z=true:=fun z hz=>by
 obtain ⟨k,_,rfl⟩:=List.mem_map.mp hz
 exact roomAt_name c k
theorem roomsBy_nodup (c:Int) {n:Nat} (hn:n≤5):(roomsBy c n).Nodup:=by
 obtain ⟨T,h1,_,h3,h4⟩:=roomAt_tab c 0
 unfold roomsBy
 refine List.pairwise_map.mpr (List.Pairwise.imp_of_mem (fun {i j} hi hj hlt e=>?_) (List.pairwise_lt_range (n:=n)))
 have hi':=List.mem_range.mp hi
 have hj':=List.mem_range.mp hj
 have g1:=emod_in (c/5+(i:Int)) (m:=5) (by decide)
 have g2:=emod_in (c/5+(j:Int)) (m:=5) (by decide)
 have:=(List.getElem?_inj (i:=((c/5+i)%5).toNat) (j:=((c/5+j)%5).toNat) (by rw [h1]; omega) h3).mp (by rw [h4,h4,e])
 omega
theorem roomsBy_at {c:Int} {n i:Nat} (h:i<n):roomAt c i∈roomsBy c n:=List.mem_map.mpr ⟨i,List.mem_range.mpr h,rfl⟩
theorem allD_mem {c:Int} {kn rs nm:List Str} {n i:Nat} {x:Dr} (hn:rs.length=n) (h1:1≤n) (h:x∈allD c kn rs nm n i):x.1∈rs∧x.2.1∈nm∧x.2.2∈rs:=by
 obtain ⟨a,_,hx⟩:=List.mem_flatMap.mp h
 obtain ⟨k,_,e⟩:=List.mem_filterMap.mp hx
 obtain ⟨e1,e2,_,e3⟩:=dr_spec e
 refine ⟨List.mem_of_getElem? e1,List.mem_of_getElem? e2,?_⟩
 have g:=emod_in (drw c a k/3) (m:=(n:Int)) (by omega)
 rw [e3,List.getD_eq_getElem?_getD,List.getElem?_eq_getElem (by omega)]
 exact List.getElem_mem _
theorem allD_apart {c:Int} {kn rs nm:List Str} {n i:Nat} (hr:rs.Nodup) (hm:nm.Nodup):Apart (allD c kn rs nm n i):=by
 refine List.pairwise_map.mpr (List.pairwise_flatMap.mpr ⟨fun a _=>?_,?_⟩)
 ·refine List.pairwise_filterMap.mpr (List.Pairwise.imp (fun {k k'} hlt x hx y hy e=>?_) (List.pairwise_lt_range (n:=nm.length)))
  obtain ⟨_,e2,_⟩:=dr_spec hx
  obtain ⟨_,f2,_⟩:=dr_spec hy
  have:=(List.getElem?_inj (i:=k) (j:=k') (List.getElem?_eq_some_iff.mp e2).1 hm).mp (by rw [e2,f2,(Prod.mk.inj e).2])
  omega
 ·refine List.Pairwise.imp (fun {a a'} hlt x hx y hy e=>?_) (List.pairwise_lt_range (n:=i))
  obtain ⟨k,_,hx⟩:=List.mem_filterMap.mp hx
  obtain ⟨k',_,hy⟩:=List.mem_filterMap.mp hy
  obtain ⟨e1,_⟩:=dr_spec hx
  obtain ⟨f1,_⟩:=dr_spec hy
  have:=(List.getElem?_inj (i:=a) (j:=a') (List.getElem?_eq_some_iff.mp e1).1 hr).mp (by rw [e1,f1,(Prod.mk.inj e).1])
  omega
structure RowOk (c:Int) (n:Nat) (ss:List Str):Prop where
 le:(endsBy c n).length≤200∧(doorsBy c ss n).length≤200∧(moreBy c ss).length≤200
 nm:(roomsOf (roomAt c 0) (endsBy c n) (doorsBy c ss n)).all isNameS=true
 ap:Apart (doorsBy c ss n)
 dd:∀ x∈doorsBy c ss n,x.2.1∈ss
 kn:∀ z∈knownOf (doorsBy c ss n) (moreBy c ss),z∈ss
 rb:∀ z∈roomsOf (roomAt c 0) (endsBy c n) (doorsBy c ss n),z∈roomsBy c n
 sm:(endsBy c n).length≤5∧(doorsBy c ss n).length≤60∧(moreBy c ss).length≤12
theorem doorsBy_mem {c:Int} {n:Nat} {ss:List Str} {x:Dr} (h:x∈doorsBy c ss n):x∈allD c (knownBy c ss) (roomsBy c n) ss n n:=by
 unfold doorsBy at h
 dsimp only at h
 split at h
 ·exact List.mem_reverse.mp h
 ·exact h
theorem rowOk {c:Int} {n:Nat} {ss:List Str} (h1:1≤n) (h5:n≤5) (hs:ss.length≤12) (hd:ss.Nodup):RowOk c n ss:=by
 have mem:=fun (x:Dr) (h:x∈doorsBy c ss n)=>allD_mem (roomsBy_len c n) h1 (doorsBy_mem h)
 have rm:∀ z∈roomsOf (roomAt c 0) (endsBy c n) (doorsBy c ss n),z∈roomsBy c n:=fun z hz=>by
  rcases List.mem_append.mp hz with hz | hz
  ·rcases List.mem_cons.mp hz with rfl | hz
   ·exact roomsBy_at (by omega)
   ·exact pick_sub z hz
  ·obtain ⟨x,hx,hz⟩:=List.mem_flatMap.mp hz
   rcases List.mem_cons.mp hz with rfl | hz
   ·exact (mem x hx).1
   ·rw [List.mem_singleton.mp hz]; exact (mem x hx).2.2
 have dl:(doorsBy c ss n).length≤60:=by
  have a1:=allD_len c (knownBy c ss) (roomsBy c n) ss n n
  have a3:ss.length*n≤12*5:=Nat.mul_le_mul hs h5
  unfold doorsBy
  dsimp only
  split
  ·rw [List.length_reverse]; omega
  ·omega
 have el:(endsBy c n).length≤5:=Nat.le_trans (pick_len ..) (by omega)
 have ml:(moreBy c ss).length≤12:=Nat.le_trans (pick_len ..) (by omega)
 refine ⟨⟨by omega,by omega,by omega⟩,List.all_eq_true.mpr fun z hz=>roomsBy_name z (rm z hz),?_,fun x hx=>(mem x hx).2.1,fun z hz=>?_,rm,el,dl,ml⟩
 ·have ap:Apart (allD c (knownBy c ss) (roomsBy c n) ss n n):=allD_apart (roomsBy_nodup c h5) hd
  unfold doorsBy
  dsimp only
  split
  ·unfold Ky.Apart at ap ⊢
   rw [List.map_reverse]
   exact List.pairwise_reverse.mpr (List.Pairwise.imp (fun h=>Ne.symm h) ap)
  ·exact ap
 ·rcases List.mem_append.mp hz with hz | hz
  ·obtain ⟨x,hx,rfl⟩:=List.mem_map.mp hz
   exact (mem x hx).2.1
  ·exact pick_sub z hz
theorem tabs_odd:∀ i,i<5→∀ z∈tabs.getD i [],z∉(["none","","A","n0","room"]:List Str):=by decide +kernel
theorem roomsBy_odd {c:Int} {n:Nat}:∀ z∈roomsBy c n,z∉(["none","","A","n0","room"]:List Str):=fun z hz=>by
 obtain ⟨k,_,rfl⟩:=List.mem_map.mp hz
 have g:=emod_in c (m:=5) (by decide)
 have t:=tabs5 (c%5).toNat (by omega)
 have g':=emod_in (c/5+(k:Int)) (m:=5) (by decide)
 have o:=tabs_odd (c%5).toNat (by omega)
 unfold roomAt
 generalize tabs.getD (c%5).toNat []=T at t o ⊢
 refine o _ ?_
 rw [List.getD_eq_getElem?_getD,List.getElem?_eq_getElem (by rw [t.1]; omega)]
 exact List.getElem_mem _
end K14
namespace K14
open PySem L2 Ky
seal L2.PE L2.PS L2.PSs L2.PA L2.PT L2.PW L2.PG L2.PI L2.PTs L2.PO L2.OpR L2.IxR L2.CallR L2.MtM L2.MtR
unseal L2.MtM L2.MtR
inductive RowQ (H:Hp) (t:Addr) (b:Str) (es:List Str) (ds:List Dr) (ms:List Str):Prop
 | mk (e d m:Addr) (h0_:H t=some (.tup [.str b,.ref e,.ref d,.ref m])) (h1_:H e=some (.lst (es.map V.str))) (h2_:DoorsAt H d ds) (h3_:H m=some (.lst (ms.map V.str)))
theorem RowQ.same {H H':Hp} {t:Addr} {b:Str} {es ms:List Str} {ds:List Dr} (R:RowQ H t b es ds ms) (sm:Same H H'):RowQ H' t b es ds ms:=by
 obtain ⟨e,d,m,h0,h1,h2,h3⟩:=R
 exact ⟨e,d,m,sm _ _ h0,sm _ _ h1,h2.same sm,sm _ _ h3⟩
inductive spRoomsOf (vs:List V) (H:Hp) (Q:VK) (E:XK):Prop
 | mk (t:Addr) (b:Str) (es ms:List Str) (ds:List Dr) (h0_:vs=[.ref t]) (h1_:RowQ H t b es ds ms) (h2_:es.length≤200∧ds.length≤200) (h3_:(unl (roomsOf b es ds) []).length<64)
  (h4_:∀ (l:Addr) (ts:List Str) H',Same H H'→H l=none→H' l=some (.lst (ts.map V.str))→PyProof.Rows.sortedS ts=true→ts.Perm (unl (roomsOf b es ds) [])→Q (.ref l) H')
theorem rooms_same (b:Str) (es:List Str) (ds:List Dr):∀ z,z∈[b]++es++ds.map (·.1)++ds.map (·.2.2)↔z∈roomsOf b es ds:=fun z=>by
 unfold roomsOf doorRooms
 simp only [List.mem_append,List.mem_singleton,List.mem_cons,List.mem_map,List.mem_flatMap,List.not_mem_nil,or_false]
 constructor
 ·rintro (((rfl | h) | ⟨x,hx,rfl⟩) | ⟨x,hx,rfl⟩)
  ·exact .inl (.inl rfl)
  ·exact .inl (.inr h)
  ·exact .inr ⟨x,hx,.inl rfl⟩
  ·exact .inr ⟨x,hx,.inr rfl⟩
 ·rintro ((rfl | h) | ⟨x,hx,rfl | rfl⟩)
  ·exact .inl (.inl (.inl rfl))
  ·exact .inl (.inl (.inr h))
  ·exact .inl (.inr ⟨x,hx,rfl⟩)
  ·exact .inr ⟨x,hx,rfl⟩
section
variable {P:Program} {w:World} {K:PySem.W.Frag} {mg:Str→Option Value} {base:Heap}
noncomputable abbrev NRO:List Str:=["_law_row","_law_begin","_law_ends","_law_doors","_law_more","_law_some"]
theorem scRO:FnScope NRO ["_law_row"] (defScope sRoomsOf):=⟨rfl,rfl,rfl,by decide +kernel,rfl,by decide +kernel,by decide +kernel⟩
noncomputable abbrev ndD:List Str:=["_law_door"]
theorem ok_roomsOf {f:Addr} {fd:FuncData} (F:Fun K "_law_rooms_of" "_law_rooms_of" sRoomsOf f fd) (T:Txt K mg) (mS:mg "set" = none):FnOk P w K mg base CX0 1 f fd ["_law_row"] spRoomsOf:=by
 refine F.ok scRO (fun vs H Q E h=>?_) (fun cdv A outer s H vs Q E hr h=>?_)
 ·obtain ⟨t,b,es,ms,ds,rfl,_⟩:=h
  rfl
 ·obtain ⟨t,b,es,ms,ds,rfl,⟨e,d,m,h0,h1,h2,h3⟩,hl,h64,q⟩:=h
  refine ⟨_,pss_cons (ps_asg (pv 0) (pg_tup rfl (pgs_cons (pg_name (i:=1) scRO.nd rfl (Or.inl rfl)) (pgs_cons (pg_name (i:=2) scRO.nd rfl (Or.inl rfl)) (pgs_cons (pg_name (i:=3) scRO.nd rfl (Or.inl rfl)) (pgs_cons (pg_name (i:=4) scRO.nd rfl (Or.inl rfl)) pgs_nil))))))
   (pss_cons (ps_set (i:=5) scRO.nd rfl (Or.inl rfl) (pe_op op_cat (pe_op op_cat (pe_lst (pac (pv 1) pa_nil)) (pv 2)) (pe_comp (N':=ndD) (nown:=1) (js:=[]) rfl
     ⟨rfl,by decide +kernel,by decide +kernel⟩ (blkNames (defScope sRoomsOf) NRO rfl rfl (by decide +kernel))
     ⟨fun _ _ _ _=>pg_name (i:=0) (show List.Nodup ndD by decide +kernel) rfl (Or.inl rfl) (.inr rfl),fun _ _ _ _=>pts_nil,fun _ _ _ _=>pe_ix (show IxR _ (rIxT K) from ix_tup) (pv 0) pe_int (fun _ _=>rfl)⟩
     (pi_list (pv 3)))))
   (pss_one (ps_ret (pe_callB (call_sortedT rfl) (by rfl) T.sorted Bo.sorted (pac (pe_callTy (call_set rfl) (by rfl) mS Bo.set (pac (pe_op op_cat (pv 5) (pe_comp (N':=ndD) (nown:=1) (js:=[]) rfl
     ⟨rfl,by decide +kernel,by decide +kernel⟩ (blkNames (defScope sRoomsOf) NRO rfl rfl (by decide +kernel))
     ⟨fun _ _ _ _=>pg_name (i:=0) (show List.Nodup ndD by decide +kernel) rfl (Or.inl rfl) (.inr rfl),fun _ _ _ _=>pts_nil,fun _ _ _ _=>pe_ix (show IxR _ (rIxT K) from ix_tup) (pv 0) pe_int (fun _ _=>rfl)⟩
     (pi_list (pv 3)))) pa_nil)) pa_nil))))),?_⟩
  refine ⟨_,rfl,t,_,rfl,SqT.of h0,rfl,_,_,rfl,_,_,rfl,_,_,rfl,_,_,rfl,rfl,?_⟩
  refine ⟨_,rfl,by show 1≤sizeLine; decide,fun p1 hp1=>⟨_,rfl,p1,e,_,_,rfl,rfl,upd_same,smu hp1 _ _ h1,small2 (by rw [List.length_map]; show 1+_≤_; omega),fun p2 hp2=>?_⟩⟩
  have s2:=(smu (o:=.lst [.str b]) hp1).trans (smu (o:=.lst ([.str b]++es.map V.str)) hp2)
  have e2:(upd (upd H p1 (.lst [.str b])) p2 (.lst ([.str b]++es.map V.str))) p2=some (.lst (([b]++es).map V.str)):=by rw [upd_same,List.map_append]; rfl
  generalize upd (upd H p1 (.lst [.str b])) p2 (.lst ([.str b]++es.map V.str))=H2 at s2 e2 ⊢
  obtain ⟨ts,hd,htl,htt⟩:=(h2.same s2).ex
  refine ⟨_,rfl,d,rfl,⟨_,SqL.of hd⟩,fun c hc=>?_⟩
  refine blk_list (xs:=ts.map V.ref) (fun i σ' H'=>∃ v0,σ'=[v0]∧H' c=some (.lst (((ds.take i).map (·.1)).map V.str))∧Same H2 H') ?_ ?_ ?_ ?_
  ·exact ⟨none,rfl,upd_same,smu hc⟩
  ·rintro i σ' H' _ ⟨v0,rfl,a1,a2⟩
   exact SqL.of (a2 _ _ hd)
  ·rintro i v σ' H' hv ⟨v0,rfl,a1,a2⟩
   rw [List.getElem?_map] at hv
   cases ht:ts[i]? with
   | none=>rw [ht] at hv; cases hv
   | some t'=>
    rw [ht] at hv
    cases hv
    have hi:i<ds.length:=by rw [← htl]; exact (List.getElem?_eq_some_iff.mp ht).1
    have hz:ds[i]?=some ds[i]:=List.getElem?_eq_getElem hi
    generalize ds[i]=z at hz
    refine ⟨_,rfl,t',_,_,.str z.1,rfl,rfl,SqT.of (a2 _ _ (htt i t' z ht hz)),rfl,_,a1,small1000 (by rw [List.length_map,List.length_map,List.length_take]; omega),_,rfl,?_,fun a o h=>?_⟩
    ·rw [upd_same,List.take_succ,hz]
     simp
    ·rw [upd_ne (ne_of_none h hc)]
     exact a2 a o h
  rintro σ' H3 ⟨v0,rfl,a1,s3⟩
  rw [List.length_map,htl,List.take_length] at a1
  refine ⟨p2,c,_,_,rfl,rfl,s3 _ _ e2,a1,small2 (by simp; omega),fun p4 hp4=>?_⟩
  have s4:=s3.trans (smu (o:=.lst (([b]++es).map V.str++(ds.map (·.1)).map V.str)) hp4)
  have e4:(upd H3 p4 (.lst (([b]++es).map V.str++(ds.map (·.1)).map V.str))) p4=some (.lst (([b]++es++ds.map (·.1)).map V.str)):=by rw [upd_same,← List.map_append]
  generalize upd H3 p4 (.lst (([b]++es).map V.str++(ds.map (·.1)).map V.str))=H4 at s4 e4 ⊢
  have hd4:=s4 _ _ hd
  refine ⟨_,rfl,_,rfl,d,rfl,⟨_,SqL.of hd4⟩,fun c hc=>?_⟩
  refine blk_list (xs:=ts.map V.ref) (fun i σ' H'=>∃ v0,σ'=[v0]∧H' c=some (.lst (((ds.take i).map (·.2.2)).map V.str))∧Same H4 H') ?_ ?_ ?_ ?_
  ·exact ⟨none,rfl,upd_same,smu hc⟩
  ·rintro i σ' H' _ ⟨v0,rfl,a1,a2⟩
   exact SqL.of (a2 _ _ hd4)
  ·rintro i v σ' H' hv ⟨v0,rfl,a1,a2⟩
   rw [List.getElem?_map] at hv
   cases ht:ts[i]? with
   | none=>rw [ht] at hv; cases hv
   | some t'=>
    rw [ht] at hv
    cases hv
    have hi:i<ds.length:=by rw [← htl]; exact (List.getElem?_eq_some_iff.mp ht).1
    have hz:ds[i]?=some ds[i]:=List.getElem?_eq_getElem hi
    generalize ds[i]=z at hz
    refine ⟨_,rfl,t',_,_,.str z.2.2,rfl,rfl,SqT.of (a2 _ _ (s4 _ _ (htt i t' z ht hz))),rfl,_,a1,small1000 (by rw [List.length_map,List.length_map,List.length_take]; omega),_,rfl,?_,fun a o h=>?_⟩
    ·rw [upd_same,List.take_succ,hz]
     simp
    ·rw [upd_ne (ne_of_none h hc)]
     exact a2 a o h
  rintro σ' H5 ⟨v0,rfl,a5,s5⟩
  rw [List.length_map,htl,List.take_length] at a5
  refine ⟨p4,c,_,_,rfl,rfl,s5 _ _ e4,a5,small2 (by simp; omega),fun p6 hp6=>?_⟩
  have s6:=s5.trans (smu (o:=.lst (([b]++es++ds.map (·.1)).map V.str++(ds.map (·.2.2)).map V.str)) hp6)
  have e6:(upd H5 p6 (.lst (([b]++es++ds.map (·.1)).map V.str++(ds.map (·.2.2)).map V.str))) p6=some (.lst (([b]++es++ds.map (·.1)++ds.map (·.2.2)).map V.str)):=by rw [upd_same,← List.map_append]
  generalize upd H5 p6 (.lst (([b]++es++ds.map (·.1)).map V.str++(ds.map (·.2.2)).map V.str))=H6 at s6 e6 ⊢
  have pu:=unl_same (rooms_same b es ds)
  refine ⟨p6,_,rfl,SqL.of e6,by simp; omega,fun p7 hp7=>⟨p7,_,rfl,upd_same,by rw [pu.length_eq]; exact h64,fun p8 ss' hp8 pm so=>?_⟩⟩
  have s8:=(s2.trans (s4.trans s6)).trans ((smu hp7).trans (smu (o:=.lst (ss'.map V.str)) hp8))
  refine q p8 ss' _ s8 ?_ upd_same so (pm.trans pu)
  exact (s2.trans ((s4.trans s6).trans (smu hp7))).free hp8
end
end K14
namespace K14
open PySem L2 Ky
seal L2.PE L2.PS L2.PSs L2.PA L2.PT L2.PW L2.PG L2.PI L2.PTs L2.PO L2.OpR L2.IxR L2.CallR L2.MtM L2.MtR
unseal L2.MtM L2.MtR
structure MRow (C CM:Addr) (H:Hp) (X t dd:Addr) (b:Str) (es' es kn ms:List Str) (ds:List Dr) (ss:List Str) (wk:List (Key×V)):Prop where
 mm:MM CM H X dd b es' kn ds
 rq:RowQ H t b es ds ms
 wa:WAt C H dd wk
 sm:es.length≤200∧ds.length≤200∧ms.length≤200
 nm:∀ z∈roomsOf b es ds,isNameS z=true
 ul:(unl (roomsOf b es ds) []).length<64
 s64:ss.length<64
 dd':∀ x∈ds,x.2.1∈ss
 ms':∀ z∈ms,z∈ss
 gd:∀ z∈ss,goodV wk (.str z)=true
 ap:Apart ds
 ee:∀ z,z∈es'↔z∈es
 kk:∀ z,z∈kn↔z∈knownOf ds ms
section
variable {C CM:Addr} {H H':Hp} {X t dd:Addr} {b:Str} {es' es kn ms:List Str} {ds:List Dr} {ss:List Str} {wk:List (Key×V)}
theorem wSameQ {C:Addr} {H H':Hp} {p:Addr} {kvs:List (Key×V)} (W:WAt C H p kvs) (sm:Same H H'):WAt C H' p kvs:=by
 obtain ⟨dx,fs,dw,o,h0,h1,h2,h3⟩:=W
 exact ⟨dx,fs,dw,o,sm _ _ h0,h1,h2,sm _ _ h3⟩
theorem MRow.same (M:MRow C CM H X t dd b es' es kn ms ds ss wk) (s:Same H H'):MRow C CM H' X t dd b es' es kn ms ds ss wk:=
 ⟨M.mm.same s,M.rq.same s,wSameQ M.wa s,M.sm,M.nm,M.ul,M.s64,M.dd',M.ms',M.gd,M.ap,M.ee,M.kk⟩
theorem MRow.rooms (M:MRow C CM H X t dd b es' es kn ms ds ss wk):∀ z,z∈roomsOf b es' ds↔z∈roomsOf b es ds:=fun z=>by
 unfold roomsOf
 rw [List.mem_append,List.mem_append,List.mem_cons,List.mem_cons,M.ee]
theorem MRow.good (M:MRow C CM H X t dd b es' es kn ms ds ss wk) {z:Str} (hz:z∈roomsOf b es ds):goodR b es' ds z:=⟨M.nm z hz,(M.rooms z).mpr hz⟩
end
theorem passF {P:Program} {w:World} {X:Cx}:Passes (CXE P w) X E0:=by
 rintro pins σ H s e s' I ⟨_,_,_,_,_,_,_,_,_,_,_,_,_,_,_,_,_,h⟩
 exact h.elim
inductive spDoorsTold (K:PySem.W.Frag) (C CM:Addr) (vs:List V) (H:Hp) (Q:VK) (E:XK):Prop
 | mk (X t n dd:Addr) (b:Str) (es' es kn ms:List Str) (ds:List Dr) (ss:List Str) (wk:List (Key×V)) (h0_:vs=[.ref X,.ref t,.ref n]) (h1_:MRow C CM H X t dd b es' es kn ms ds ss wk) (h2_:SqL K H n (ss.map V.str)) (h3_:∀ H',Same H H'→Q (.bl true) H')
theorem goodV_len {wk:List (Key×V)} {z:Str} (h:goodV wk (.str z)=true):z.length≤1000:=Nat.le_trans (name_len (Bool.and_eq_true_iff.mp h).1) (by decide)
section
variable {P:Program} {w:World} {K:PySem.W.Frag} {mg:Str→Option Value} {base:Heap}
noncomputable abbrev NDT:List Str:=["_law_machine","_law_row","_law_names","_law_room","_law_due","_law_one","_law_deed","_law_other"]
theorem scDT:FnScope NDT ["_law_machine","_law_row","_law_names"] (defScope sDoorsTold):=⟨rfl,rfl,rfl,by decide +kernel,rfl,by decide +kernel,by decide +kernel⟩
theorem ok_doorsTold {f fR fA fE fT C CM cR cD:Addr} {fd fdR fdA fdE fdT:FuncData} (F:Fun K "_law_doors_told" "_law_doors_told" sDoorsTold f fd) (T:Txt K mg) (MC:MCls K CM)
  (GR:FnOk P w K mg base CX0 1 fR fdR ["_law_row"] spRoomsOf) (kR:PySem.W.keepIn K (.ref fR)=true) (bR:Binds K fdR ["_law_row"] []) (mR:mg "_law_rooms_of" = some (.ref fR))
  (GA:FnOk P w K mg base (CXE P w) 3 fA fdA ["self","room"] (spMAtE CM cR)) (bA:Binds K fdA ["self","room"] []) (mA:Meth K CM "at" fA)
  (GE:FnOk P w K mg base (CXE P w) 3 fE fdE ["self","room"] (spMIsEndE CM cR)) (bE:Binds K fdE ["self","room"] []) (mE:Meth K CM "is_end" fE)
  (GT:FnOk P w K mg base (CXE P w) 4 fT fdT ["self","room","deed"] (spMToE C CM cR cD)) (bT:Binds K fdT ["self","room","deed"] []) (mT:Meth K CM "to" fT) :
  FnOk P w K mg base CX0 5 f fd ["_law_machine","_law_row","_law_names"] (spDoorsTold K C CM):=by
 refine F.ok scDT (fun vs H Q E h=>?_) (fun cdv A outer s H vs Q E hr h=>?_)
 ·obtain ⟨X,t,n,dd,b,es',es,kn,ms,ds,ss,wk,rfl,_⟩:=h
  rfl
 ·obtain ⟨X,t,n,dd,b,es',es,kn,ms,ds,ss,wk,rfl,M,hN,q⟩:=h
  have hu:=hu_of hr
  have hu0:=Nat.lt_of_succ_lt hu
  have hr1:Room 1 _:=hr.mono (by decide)
  have hr3:Room 3 _:=hr.mono (by decide)
  refine ⟨_,pss_cons (ps_for PassesOwn.never rfl (pi_list (pe_call GR hr1 rfl mR kR bR .nil pass0 (pac (pv 1) pa_nil))) (pg_name (i:=3) scDT.nd rfl (Or.inl rfl))
    (pss_cons (ps_set (i:=4) scDT.nd rfl (Or.inl rfl) pe_dnewK)
    (pss_cons (ps_for PassesOwn.never rfl (pi_list (pe_ix ix_tup (pv 1) pe_int (fun _ _=>rfl))) (pg_tup rfl (pgs_cons (pg_name (i:=5) scDT.nd rfl (Or.inl rfl)) (pgs_cons (pg_name (i:=6) scDT.nd rfl (Or.inl rfl)) (pgs_cons (pg_name (i:=7) scDT.nd rfl (Or.inl rfl)) pgs_nil))))
     (pss_one (ps_if (pt_cmpR op_eq (pv 5) (pv 3) (nomark _)) (pss_one (ps_dput hu (pv 4) (pv 6) (pv 7) rfl)) pss_nil)))
    (pss_cons (ps_if (pw_or (pt_cmpR (op_neSs hu0) (pe_meth (pv 0) MC.cl mA GA hr3 bA .nil passF (pac (pv 3) pa_nil)) (pe_callB (call_sortedD rfl) (by rfl) T.sorted Bo.sorted (pac (pv 4) pa_nil)) (nomark _))
      (pw_or1 (pt_cmpR op_ne (pe_meth (pv 0) MC.cl mE GE hr3 bE .nil passF (pac (pv 3) pa_nil)) (pe_cmpR (show OpR _ _ (rIn K false) from op_in_seq) (pv 3) (pe_ix ix_tup (pv 1) pe_int (fun _ _=>rfl)) (by with_unfolding_all rfl)) (nomark _)))).pt (pss_one (ps_ret pe_bl)) pss_nil)
    (pss_one (ps_for PassesOwn.never rfl (pi_list (pv 2)) (pg_name (i:=6) scDT.nd rfl (Or.inl rfl))
     (pss_one (ps_if (pt_cmpR op_ne (pe_meth (pv 0) MC.cl mT GT hr bT .nil passF (pac (pv 3) (pac (pv 6) pa_nil))) (pe_dget1 hu (pv 4) (pv 6) ⟨by rfl,by rfl,by rfl,by rfl⟩) (nomark _)) (pss_one (ps_ret pe_bl)) pss_nil))))))))
   (pss_one (ps_ret pe_bl)),?_⟩
  obtain ⟨e0,d0,m0,ht,he,hD,hm⟩:=M.rq
  refine ⟨_,rfl,t,b,es,ms,ds,rfl,M.rq,⟨M.sm.1,M.sm.2.1⟩,M.ul,fun l ts H2 s2 hl hl2 so pm=>⟨l,rfl,⟨_,SqL.of hl2⟩,?_⟩⟩
  refine for_list (xs:=ts.map V.str) (fun i σ H'=>∃ (x3 x4 x5 x6 x7:Option V),σ=[some (.ref X),some (.ref t),some (.ref n),x3,x4,x5,x6,x7]∧Same H2 H') ?_ ?_ ?_ ?_
  ·exact ⟨none,none,none,none,none,rfl,Same.refl H2⟩
  ·rintro i σ H' _ ⟨x3,x4,x5,x6,x7,rfl,sm⟩
   exact SqL.of (sm _ _ hl2)
  ·rintro i v σ H' hv ⟨x3,x4,x5,x6,x7,rfl,sm⟩
   rw [List.getElem?_map] at hv
   cases hz:ts[i]? with
   | none=>rw [hz] at hv; cases hv
   | some z=>
    rw [hz] at hv
    cases hv
    have hzr:z∈roomsOf b es ds:=unl_in.mp (pm.mem_iff.mp (List.mem_of_getElem? hz))
    have good:=M.good hzr
    have zl:z.length≤1000:=Nat.le_trans (name_len good.1) (by decide)
    intro d hd
    have sA:=(s2.trans sm).trans (smu (o:=.dK []) hd)
    have hdH:∀ b' o,H2 b'=some o→b'≠d:=fun b' o e=>ne_of_none (sm _ _ e) hd
    have sA2:=sm.trans (smu (o:=.dK []) hd)
    have hd1:(upd H' d (.dK [])) d=some (.dK []):=upd_same
    generalize upd H' d (.dK [])=H3 at sA sA2 hd1 ⊢
    obtain ⟨tD,hD0,htl,htt⟩:=(hD.same sA).ex
    refine ⟨_,rfl,t,_,_,.ref d0,rfl,rfl,SqT.of (sA _ _ ht),rfl,d0,rfl,⟨_,SqL.of hD0⟩,?_⟩
    have hdd0:d0≠d:=fun e=>by rw [e,hd1] at hD0; cases hD0
    refine for_list (xs:=tD.map V.ref) (fun i σ H'=>∃ (y5 y6 y7:Option V),σ=[some (.ref X),some (.ref t),some (.ref n),some (.str z),some (.ref d),y5,y6,y7]∧H' d=some (.dK (inn (ds.take i) z))∧∀ b' o,b'≠d→H3 b'=some o→H' b'=some o) ?_ ?_ ?_ ?_
    ·exact ⟨_,_,_,rfl,hd1,fun _ _ _ e=>e⟩
    ·rintro i σ H' _ ⟨y5,y6,y7,rfl,h1,h2⟩
     exact SqL.of (h2 _ _ hdd0 hD0)
    ·rintro i v σ H' hv ⟨y5,y6,y7,rfl,h1,h2⟩
     rw [List.getElem?_map] at hv
     cases hti:tD[i]? with
     | none=>rw [hti] at hv; cases hv
     | some tt=>
      rw [hti] at hv
      cases hv
      have hi:i<ds.length:=by rw [← htl]; exact (List.getElem?_eq_some_iff.mp hti).1
      have hx:ds[i]?=some ds[i]:=List.getElem?_eq_getElem hi
      generalize ds[i]=x at hx
      have htx:=htt i tt x hti hx
      have htd:tt≠d:=fun e=>by rw [e,hd1] at htx; cases htx
      refine ⟨tt,_,rfl,SqT.of (h2 _ _ htd htx),rfl,_,_,rfl,_,_,rfl,_,_,rfl,rfl,?_⟩
      refine ⟨_,rfl,_,rfl,rfl,_,rfl,?_⟩
      have ei:=inn_take hx z
      by_cases e:x.1=z
      ·rw [decide_eq_true (by rw [e])]
       refine iteT ⟨_,rfl,_,rfl,_,rfl,d,_,rfl,DPut.k (k:=Sum.inr x.2.1) h1 (small1000 (Nat.le_trans (inn_len _ _) (by rw [List.length_take]; have:=M.sm.2.1; omega))),?_⟩
       refine ⟨_,_,_,rfl,?_,fun b' o nb eb=>?_⟩
       ·rw [upd_same,ei,if_pos e,putK_new]
        refine inn_none fun y hy ey=>?_
        exact M.ap.at hx y hy (ey.trans e.symm)
       ·rw [upd_ne nb]
        exact h2 b' o nb eb
      ·rw [decide_eq_false (fun q=>e (by cases q; rfl))]
       refine iteF ⟨_,_,_,rfl,?_,h2⟩
       rw [ei,if_neg e,List.append_nil]
       exact h1
    rintro σ H4 ⟨y5,y6,y7,rfl,h1,h2⟩
    rw [List.length_map,htl,List.take_length] at h1
    have s24:Same H2 H4:=fun b' o e=>h2 b' o (hdH b' o e) (sA2 _ _ e)
    have sB:=s2.trans s24
    obtain ⟨dx,lM,eM,kM,kvs,g,M0⟩:=M.mm
    have hM:MM CM H X dd b es' kn ds:=⟨dx,lM,eM,kM,kvs,g,M0⟩
    refine ⟨_,rfl,X,dx,_,rfl,sB _ _ M0.ins,mFlds_mth _ _ _ _ _ _ (by decide),_,rfl,X,dd,b,z,es',kn,ds,ss,rfl,hM.same sB,zl,M.ap,M.dd',M.s64,fun _ l1 ts1 H5 s5 hl1 hl1' so1 pm1=>?_,fun bad=>absurd good bad⟩
    refine ⟨_,rfl,d,_,deedsAt ds z,rfl,s5 _ _ h1,inn_keys ds z,?_,fun p2 ts2 hp2 pm2 so2=>?_⟩
    ·refine Nat.lt_of_le_of_lt ?_ M.s64
     have hnd:=deedsAt_nodup M.ap z
     have:=unl_small (rs:=deedsAt ds z) (N:=ss) fun y hy=>by obtain ⟨x,hx,_,rfl⟩:=deedsAt_mem.mp hy; exact M.dd' x hx
     rw [← (perm_of_sub (m:=unl (deedsAt ds z) []) hnd (fun z hz=>unl_in.mpr hz) (unl_small fun z hz=>hz)).length_eq] at this
     exact this
    have e12:ts1=ts2:=sorted_one pm1 pm2 so1 so2
    subst e12
    have sC:=sB.trans (s5.trans (smu (o:=.lst (ts1.map V.str)) hp2))
    have s2C:=s24.trans (s5.trans (smu (o:=.lst (ts1.map V.str)) hp2))
    have h1C:=(smu (o:=.lst (ts1.map V.str)) hp2) _ _ (s5 _ _ h1)
    refine ⟨l1,p2,ts1,ts1,rfl,rfl,SqL.of (smu hp2 _ _ hl1'),SqL.of upd_same,_,rfl,ite2 (fun y=>absurd y (by simp)) fun _=>?_⟩
    generalize upd H5 p2 (.lst (ts1.map V.str))=H6 at sC s2C h1C ⊢
    refine ⟨_,rfl,X,dx,_,rfl,sC _ _ M0.ins,mFlds_mth _ _ _ _ _ _ (by decide),_,rfl,X,dd,b,z,es',kn,ds,rfl,hM.same sC,zl,fun _ H7 s7=>?_,fun bad=>absurd good bad⟩
    have sD:=sC.trans s7
    refine ⟨_,rfl,_,rfl,t,_,_,.ref e0,rfl,rfl,SqT.of (sD _ _ ht),rfl,e0,_,rfl,.inl (SqL.of (sD _ _ he)),rfl,by rw [List.all_map]; exact List.all_eq_true.mpr fun _ _=>rfl,rfl,_,rfl,?_⟩
    have e3:inV (.str z) (es.map V.str)=decide (z∈es'):=by rw [inV_str,decide_eq_decide,M.ee]
    refine ite2 (fun y=>absurd y (by simp [e3])) fun _=>?_
    have s2D:=s2C.trans s7
    have h1D:=s7 _ _ h1C
    refine ⟨_,rfl,n,rfl,⟨_,sD.seq hN⟩,?_⟩
    refine for_list (xs:=ss.map V.str) (fun i σ H'=>∃ (y6:Option V),σ=[some (.ref X),some (.ref t),some (.ref n),some (.str z),some (.ref d),y5,y6,y7]∧Same H7 H') ?_ ?_ ?_ ?_
    ·exact ⟨_,rfl,Same.refl H7⟩
    ·rintro i σ H' _ ⟨y6,rfl,h3⟩
     exact (sD.trans h3).seq hN
    ·rintro i v σ H' hv ⟨y6,rfl,h3⟩
     rw [List.getElem?_map] at hv
     cases hy:ss[i]? with
     | none=>rw [hy] at hv; cases hv
     | some y=>
      rw [hy] at hv
      cases hv
      have gy:=M.gd y (List.mem_of_getElem? hy)
      have sE:=sD.trans h3
      refine ⟨_,rfl,X,dx,_,rfl,sE _ _ M0.ins,mFlds_mth _ _ _ _ _ _ (by decide),_,rfl,_,rfl,X,dd,b,z,.str y,es',kn,ds,wk,rfl,hM.same sE,zl,wSameQ M.wa sE,.inl ⟨y,rfl,goodV_len gy⟩,fun _ _ u H8 eu s8=>?_,fun _ bad=>absurd (gy.symm.trans bad) (by decide),fun bad=>absurd good bad⟩
      cases eu
      have h1E:=s8 _ _ (h3 _ _ h1D)
      refine ⟨_,rfl,d,rfl,.inl ⟨_,.inl h1E⟩,_,rfl,_,DGet.k (k:=Sum.inr y) h1E,?_⟩
      rw [oV_get]
      cases doorTo ds z y with
      | none=>exact ⟨rfl,_,rfl,ite2 (fun y=>absurd y (by simp)) fun _=>⟨_,rfl,h3.trans s8⟩⟩
      | some u'=>exact ⟨rfl,_,rfl,ite2 (fun y=>absurd y (by simp)) fun _=>⟨_,rfl,h3.trans s8⟩⟩
    rintro σ H9 ⟨y6,rfl,h3⟩
    exact ⟨_,_,_,_,_,rfl,s2D.trans h3⟩
  ·rintro σ H' ⟨x3,x4,x5,x6,x7,rfl,sm⟩
   exact q H' (s2.trans sm)
end
end K14
namespace K14
open PySem L2 Ky
seal L2.PE L2.PS L2.PSs L2.PA L2.PT L2.PW L2.PG L2.PI L2.PTs L2.PO L2.OpR L2.IxR L2.CallR L2.MtM L2.MtR
unseal L2.MtM L2.MtR
inductive spTold (C CM:Addr) (vs:List V) (H:Hp) (Q:VK) (E:XK):Prop
 | mk (X t dd:Addr) (b:Str) (es' es kn ms:List Str) (ds:List Dr) (ss:List Str) (wk:List (Key×V)) (h0_:vs=[.ref X,.ref t]) (h1_:MRow C CM H X t dd b es' es kn ms ds ss wk) (h3_:∀ H',Same H H'→Q (.bl true) H')
section
variable {C CM:Addr} {H H':Hp} {X t dd:Addr} {b:Str} {es' es kn ms:List Str} {ds:List Dr} {ss:List Str} {wk:List (Key×V)}
theorem MRow.kn64 (M:MRow C CM H X t dd b es' es kn ms ds ss wk):(unl kn []).length<64:=by
 refine Nat.lt_of_le_of_lt (unl_small fun z hz=>?_) M.s64
 rcases List.mem_append.mp ((M.kk z).mp hz) with h | h
 ·obtain ⟨x,hx,rfl⟩:=List.mem_map.mp h
  exact M.dd' x hx
 ·exact M.ms' z h
theorem MRow.es64 (M:MRow C CM H X t dd b es' es kn ms ds ss wk):(unl es' []).length<64:=by
 refine Nat.lt_of_le_of_lt (unl_small (N:=unl (roomsOf b es ds) []) fun z hz=>unl_in.mpr ?_) M.ul
 exact List.mem_append_left _ (List.mem_cons_of_mem _ ((M.ee z).mp hz))
end
section
variable {P:Program} {w:World} {K:PySem.W.Frag} {mg:Str→Option Value} {base:Heap}
noncomputable abbrev NTo:List Str:=["_law_machine","_law_row","_law_begin","_law_ends","_law_doors","_law_more","_law_known"]
theorem scTo:FnScope NTo ["_law_machine","_law_row"] (defScope sTold):=⟨rfl,rfl,rfl,by decide +kernel,rfl,by decide +kernel,by decide +kernel⟩
theorem ok_told {f fR fB fRo fEn fKn C CM:Addr} {fd fdR fdB fdRo fdEn fdKn:FuncData} (F:Fun K "_law_told" "_law_told" sTold f fd) (T:Txt K mg) (mS:mg "set" = none) (MC:MCls K CM)
  (GR:FnOk P w K mg base CX0 1 fR fdR ["_law_row"] spRoomsOf) (kR:PySem.W.keepIn K (.ref fR)=true) (bR:Binds K fdR ["_law_row"] []) (mR:mg "_law_rooms_of" = some (.ref fR))
  (GB:FnOk P w K mg base CX0 1 fB fdB ["self"] (spMBegin CM)) (bB:Binds K fdB ["self"] []) (mB:Meth K CM "begin" fB)
  (GRo:FnOk P w K mg base CX0 1 fRo fdRo ["self"] (spMSort CM fRooms)) (bRo:Binds K fdRo ["self"] []) (mRo:Meth K CM "rooms" fRo)
  (GEn:FnOk P w K mg base CX0 1 fEn fdEn ["self"] (spMSort CM fEnds)) (bEn:Binds K fdEn ["self"] []) (mEn:Meth K CM "ends" fEn)
  (GKn:FnOk P w K mg base CX0 1 fKn fdKn ["self"] (spMSort CM fKnows)) (bKn:Binds K fdKn ["self"] []) (mKn:Meth K CM "knows" fKn) :
  FnOk P w K mg base CX0 2 f fd ["_law_machine","_law_row"] (spTold C CM):=by
 refine F.ok scTo (fun vs H Q E h=>?_) (fun cdv A outer s H vs Q E hr h=>?_)
 ·obtain ⟨X,t,dd,b,es',es,kn,ms,ds,ss,wk,rfl,_⟩:=h
  rfl
 ·obtain ⟨X,t,dd,b,es',es,kn,ms,ds,ss,wk,rfl,M,q⟩:=h
  have hu:=hu_of hr
  have hu0:=Nat.lt_of_succ_lt hu
  obtain ⟨e0,d0,m0,ht,he,hD,hm⟩:=M.rq
  obtain ⟨dx,lM,eM,kM,kvs,g,M0⟩:=M.mm
  have hM:MM CM H X dd b es' kn ds:=⟨dx,lM,eM,kM,kvs,g,M0⟩
  refine ⟨_,pss_cons (ps_asg (pv 1) (pg_tup rfl (pgs_cons (pg_name (i:=2) scTo.nd rfl (Or.inl rfl)) (pgs_cons (pg_name (i:=3) scTo.nd rfl (Or.inl rfl)) (pgs_cons (pg_name (i:=4) scTo.nd rfl (Or.inl rfl)) (pgs_cons (pg_name (i:=5) scTo.nd rfl (Or.inl rfl)) pgs_nil))))))
   (pss_cons (ps_set (i:=6) scTo.nd rfl (Or.inl rfl) (pe_callB (call_sortedT rfl) (by rfl) T.sorted Bo.sorted (pac (pe_callTy (call_set rfl) (by rfl) mS Bo.set (pac (pe_op op_cat (pe_comp (N':=ndD) (nown:=1) (js:=[]) rfl
     ⟨rfl,by decide +kernel,by decide +kernel⟩ (blkNames (defScope sTold) NTo rfl rfl (by decide +kernel))
     ⟨fun _ _ _ _=>pg_name (i:=0) (show List.Nodup ndD by decide +kernel) rfl (Or.inl rfl) (.inr rfl),fun _ _ _ _=>pts_nil,fun _ _ _ _=>pe_ix (show IxR _ (rIxT K) from ix_tup) (pv 0) pe_int (fun _ _=>rfl)⟩
     (pi_list (pv 4))) (pv 5)) pa_nil)) pa_nil)))
   (pss_cons (ps_if (pw_or (pt_cmpR op_ne (pe_meth0 (pv 0) MC.cl mB GB hr bB .nil pass0) (pv 2) (nomark _)) (pw_or1 (pt_cmpR (op_neSs hu0) (pe_meth0 (pv 0) MC.cl mRo GRo hr bRo .nil pass0) (pe_call GR hr (by rfl) mR kR bR .nil pass0 (pac (pv 1) pa_nil)) (nomark _)))).pt (pss_one (ps_ret pe_bl)) pss_nil)
   (pss_one (ps_ret (pe_and (pe_cmpR (op_eqSs hu0) (pe_meth0 (pv 0) MC.cl mEn GEn hr bEn .nil pass0) (pe_callB (call_sortedT rfl) (by rfl) T.sorted Bo.sorted (pac (pe_callTy (call_set rfl) (by rfl) mS Bo.set (pac (pv 3) pa_nil)) pa_nil)) (nomark _))
    (pe_one (pe_cmpR (op_eqSs hu0) (pe_meth0 (pv 0) MC.cl mKn GKn hr bKn .nil pass0) (pv 6) (nomark _)))))))),?_⟩
  refine ⟨_,rfl,t,_,rfl,SqT.of ht,rfl,_,_,rfl,_,_,rfl,_,_,rfl,_,_,rfl,rfl,?_⟩
  obtain ⟨ts,hd,htl,htt⟩:=hD.ex
  have hsm:=M.sm
  refine ⟨_,rfl,d0,rfl,⟨_,SqL.of hd⟩,fun c hc=>?_⟩
  refine blk_list (xs:=ts.map V.ref) (fun i σ' H'=>∃ v0,σ'=[v0]∧H' c=some (.lst (((ds.take i).map (·.2.1)).map V.str))∧Same H H') ?_ ?_ ?_ ?_
  ·exact ⟨none,rfl,upd_same,smu hc⟩
  ·rintro i σ' H' _ ⟨v0,rfl,a1,a2⟩
   exact SqL.of (a2 _ _ hd)
  ·rintro i v σ' H' hv ⟨v0,rfl,a1,a2⟩
   rw [List.getElem?_map] at hv
   cases hti:ts[i]? with
   | none=>rw [hti] at hv; cases hv
   | some t'=>
    rw [hti] at hv
    cases hv
    have hi:i<ds.length:=by rw [← htl]; exact (List.getElem?_eq_some_iff.mp hti).1
    have hz:ds[i]?=some ds[i]:=List.getElem?_eq_getElem hi
    generalize ds[i]=z at hz
    refine ⟨_,rfl,t',_,_,.str z.2.1,rfl,rfl,SqT.of (a2 _ _ (htt i t' z hti hz)),rfl,_,a1,small1000 (by rw [List.length_map,List.length_map,List.length_take]; omega),_,rfl,?_,fun a o h=>?_⟩
    ·rw [upd_same,List.take_succ,hz]
     simp
    ·rw [upd_ne (ne_of_none h hc)]
     exact a2 a o h
  rintro σ' H3 ⟨v0,rfl,a1,s3⟩
  rw [List.length_map,htl,List.take_length] at a1
  refine ⟨_,rfl,c,m0,_,_,rfl,rfl,a1,s3 _ _ hm,small2 (by simp; omega),fun p4 hp4=>?_⟩
  have s4:=s3.trans (smu (o:=.lst ((ds.map (·.2.1)).map V.str++ms.map V.str)) hp4)
  have e4:(upd H3 p4 (.lst ((ds.map (·.2.1)).map V.str++ms.map V.str))) p4=some (.lst ((knownOf ds ms).map V.str)):=by rw [upd_same,← List.map_append]; rfl
  generalize upd H3 p4 (.lst ((ds.map (·.2.1)).map V.str++ms.map V.str))=H4 at s4 e4 ⊢
  have pk:=unl_same M.kk
  refine ⟨p4,_,rfl,SqL.of e4,by unfold knownOf; simp; omega,fun p5 hp5=>⟨p5,_,rfl,upd_same,by rw [← pk.length_eq]; exact M.kn64,fun p6 tk hp6 pm6 so6=>?_⟩⟩
  generalize hH6:upd (upd H4 p5 _) p6 _=H6
  have s6:Same H H6:=by rw [← hH6]; exact s4.trans ((smu hp5).trans (smu hp6))
  have e6:H6 p6=some (.lst (tk.map V.str)):=by rw [← hH6,upd_same]
  clear hH6
  refine ⟨_,rfl,X,dx,_,rfl,s6 _ _ M0.ins,mFlds_mth _ _ _ _ _ _ (by decide),X,dd,b,es',kn,ds,rfl,hM.same s6,_,rfl,rfl,_,rfl,ite2 (fun y=>absurd y (by simp)) fun _=>?_⟩
  have pr:=unl_same M.rooms
  refine ⟨_,rfl,X,dx,_,rfl,s6 _ _ M0.ins,mFlds_mth _ _ _ _ _ _ (by decide),X,dd,b,es',kn,ds,rfl,hM.same s6,by show (unl (roomsOf b es' ds) []).length<64; rw [pr.length_eq]; exact M.ul,fun l1 t1 H7 s7 hl1 hl1' so1 pm1=>?_⟩
  have s67:=s6.trans s7
  refine ⟨_,rfl,t,b,es,ms,ds,rfl,M.rq.same s67,⟨hsm.1,hsm.2.1⟩,M.ul,fun l2 t2 H8 s8 hl2 hl2' so2 pm2=>?_⟩
  have e12:t1=t2:=sorted_one (pm1.trans pr) pm2 so1 so2
  subst e12
  have sA:=s67.trans s8
  refine ⟨l1,l2,t1,t1,rfl,rfl,SqL.of (s8 _ _ hl1'),SqL.of hl2',_,rfl,ite2 (fun y=>absurd y (by simp)) fun _=>?_⟩
  have e6A:=s8 _ _ (s7 _ _ e6)
  refine ⟨_,rfl,X,dx,_,rfl,sA _ _ M0.ins,mFlds_mth _ _ _ _ _ _ (by decide),X,dd,b,es',kn,ds,rfl,hM.same sA,M.es64,fun l3 t3 H9 s9 hl3 hl3' so3 pm3=>?_⟩
  have sB:=sA.trans s9
  have pe:=unl_same M.ee
  refine ⟨_,rfl,e0,_,rfl,SqL.of (sB _ _ he),by omega,fun p7 hp7=>⟨p7,_,rfl,upd_same,by rw [← pe.length_eq]; exact M.es64,fun p8 t4 hp8 pm4 so4=>?_⟩⟩
  generalize hH10:upd (upd H9 p7 _) p8 _=H10
  have s10:Same H9 H10:=by rw [← hH10]; exact (smu hp7).trans (smu hp8)
  have e10:H10 p8=some (.lst (t4.map V.str)):=by rw [← hH10,upd_same]
  clear hH10
  have e34:t3=t4:=sorted_one (pm3.trans pe) pm4 so3 so4
  subst e34
  have sC:=sB.trans s10
  refine ⟨l3,p8,t3,t3,rfl,rfl,SqL.of (s10 _ _ hl3'),SqL.of e10,_,rfl,?_⟩
  refine ite2 (fun _=>?_) (fun y=>absurd (by simp) y)
  refine ⟨_,rfl,X,dx,_,rfl,sC _ _ M0.ins,mFlds_mth _ _ _ _ _ _ (by decide),X,dd,b,es',kn,ds,rfl,hM.same sC,M.kn64,fun l5 t5 H11 s11 hl5 hl5' so5 pm5=>?_⟩
  have e56:t5=tk:=sorted_one (pm5.trans pk) pm6 so5 so6
  subst e56
  refine ⟨_,rfl,l5,p6,t5,t5,rfl,rfl,SqL.of hl5',SqL.of (s11 _ _ (s10 _ _ (s9 _ _ e6A))),?_⟩
  have:=q H11 (sC.trans s11)
  simpa using this
end
end K14
namespace K14
open PySem L2 Ky
seal L2.PE L2.PS L2.PSs L2.PA L2.PT L2.PW L2.PG L2.PI L2.PTs L2.PO L2.OpR L2.IxR L2.CallR L2.MtM L2.MtR
unseal L2.MtM L2.MtR
noncomputable def off (H:Hp) (P:Addr):Hp:=fun b=>if b=P then none else H b
theorem off_of {H:Hp} {P b:Addr} {ps:Array Value} {o:HO} (hP:H P=some (.tbl ps)) (e:H b=some o) (n:∀ ps,o≠.tbl ps):off H P b=some o:=by
 unfold off
 rw [if_neg (fun z=>by rw [z,hP] at e; exact n ps (Option.some.inj e).symm)]
 exact e
theorem off_some {H:Hp} {P b:Addr} {o:HO} (e:off H P b=some o):b≠P∧H b=some o:=by
 unfold off at e
 by_cases q:b=P
 ·rw [if_pos q] at e; cases e
 ·rw [if_neg q] at e; exact ⟨q,e⟩
theorem off_same {H H':Hp} {P:Addr} (sm:Same H H'):Same (off H P) H':=fun b o e=>sm _ _ (off_some e).2
theorem off_off {H H':Hp} {P:Addr} (sm:Same (off H P) H'):Same (off H P) (off H' P):=fun b o e=>by
 have n:=(off_some e).1
 unfold off
 rw [if_neg n]
 exact sm _ _ e
section
variable {K:PySem.W.Frag} {H:Hp} {P:Addr} {ps:Array Value}
theorem offL {p:Addr} {xs:List V} (hP:H P=some (.tbl ps)) (h:SqL K H p xs):SqL K (off H P) p xs:=by
 rcases h with (h | ⟨o,h⟩) | h
 ·exact .inl (.inl (off_of hP h (fun _ z=>nomatch z)))
 ·exact .inl (.inr ⟨o,off_of hP h (fun _ z=>nomatch z)⟩)
 ·exact .inr h
theorem offD {d:Addr} {ds:List Dr} (hP:H P=some (.tbl ps)) (h:DoorsAt H d ds):DoorsAt (off H P) d ds:=by
 obtain ⟨ts,h1,h2,h3⟩:=h.ex
 exact ⟨ts,off_of hP h1 (fun _ z=>nomatch z),h2,fun i t x a b=>off_of hP (h3 i t x a b) (fun _ z=>nomatch z)⟩
theorem offR {t:Addr} {b:Str} {es ms:List Str} {ds:List Dr} (hP:H P=some (.tbl ps)) (h:RowQ H t b es ds ms):RowQ (off H P) t b es ds ms:=by
 obtain ⟨e,d,m,h0,h1,h2,h3⟩:=h
 exact ⟨e,d,m,off_of hP h0 (fun _ z=>nomatch z),off_of hP h1 (fun _ z=>nomatch z),offD hP h2,off_of hP h3 (fun _ z=>nomatch z)⟩
theorem offW {C p:Addr} {kvs:List (Key×V)} (hP:H P=some (.tbl ps)) (h:WAt C H p kvs):WAt C (off H P) p kvs:=by
 obtain ⟨dx,fs,dw,o,h0,h1,h2,h3⟩:=h
 exact ⟨dx,fs,dw,o,off_of hP h0 (fun _ z=>nomatch z),h1,h2,off_of hP h3 (fun _ z=>nomatch z)⟩
theorem offM {CM x dd:Addr} {b:Str} {es kn:List Str} {ds:List Dr} (hP:H P=some (.tbl ps)) (h:MM CM H x dd b es kn ds):MM CM (off H P) x dd b es kn ds:=by
 obtain ⟨dx,l,e,k,kvs,g,M⟩:=h
 exact ⟨dx,l,e,k,kvs,g,⟨off_of hP M.ins (fun _ z=>nomatch z),⟨off_of hP M.lead.dk (fun _ z=>nomatch z),M.lead.keys,M.lead.val,fun z hz=>off_of hP (M.lead.dd z hz) (fun _ z=>nomatch z),M.lead.inj,M.lead.ne⟩,off_of hP M.ends (fun _ z=>nomatch z),off_of hP M.know (fun _ z=>nomatch z)⟩⟩
theorem offMR {C CM:Addr} {X t dd:Addr} {b:Str} {es' es kn ms:List Str} {ds:List Dr} {ss:List Str} {wk:List (Key×V)} (hP:H P=some (.tbl ps)) (M:MRow C CM H X t dd b es' es kn ms ds ss wk):MRow C CM (off H P) X t dd b es' es kn ms ds ss wk:=
 ⟨offM hP M.mm,offR hP M.rq,offW hP M.wa,M.sm,M.nm,M.ul,M.s64,M.dd',M.ms',M.gd,M.ap,M.ee,M.kk⟩
end
noncomputable abbrev lam0:Pos:=⟨265,29,265,67⟩
noncomputable abbrev lam1:Pos:=⟨266,33,266,75⟩
noncomputable abbrev lam2:Pos:=⟨267,33,267,82⟩
noncomputable abbrev lam3:Pos:=⟨268,33,268,78⟩
noncomputable abbrev lams:List Pos:=[lam0,lam1,lam2,lam3]
noncomputable abbrev lamQ:Str:="_law_odd.<locals>."++"<lambda>"
noncomputable def tabOf:List Addr→List Pos→List Value
 | c::cs,p::ps=>rawInt p.line::rawInt p.col::.ref c::tabOf cs ps
 | _,_=>[]
noncomputable def TK (Pt:Addr) (j:Nat) (H:Hp):Prop:=∃ cs:List Addr,(cs.length=j∨cs.length=4)∧H Pt=some (.tbl (tabOf cs lams).toArray)∧∀ c∈cs,H c=some (.ext (CodeIs c lamQ))
theorem TK.same {Pt:Addr} {j:Nat} {H H':Hp} (T:TK Pt j H) (sm:Same H H'):TK Pt j H':=by
 obtain ⟨cs,h1,h2,h3⟩:=T
 exact ⟨cs,h1,sm _ _ h2,fun c hc=>sm _ _ (h3 c hc)⟩
theorem TK.tb {Pt:Addr} {j:Nat} {H:Hp} (T:TK Pt j H):∃ ps,H Pt=some (.tbl ps):=let ⟨_,_,h,_⟩:=T; ⟨_,h⟩
theorem TK.last {Pt:Addr} {H:Hp} (T:TK Pt 4 H):TK Pt 0 H:=let ⟨cs,h1,h2⟩:=T; ⟨cs,.inr (h1.elim id id),h2⟩
theorem tk_made {Pt:Addr} {H H1:Hp} {cs:List Addr} {j:Nat} {c':Addr} {ps:Array Value} (hl:cs.length=j) (h2:H Pt=some (.tbl ps)) (h3:∀ c∈cs,H c=some (.ext (CodeIs c lamQ))) (hc:H c'=none) (hn:c'≠Pt) {tb:Array Value}
  (e:H1=upd (upd H Pt (.tbl tb)) c' (.ext (CodeIs c' lamQ))) (ht:tb=(tabOf (cs++[c']) lams).toArray):Same (off H Pt) H1∧TK Pt (j+1) H1:=by
 refine ⟨fun b o z=>?_,cs++[c'],.inl (by rw [List.length_append,hl]; rfl),?_,fun c hm=>?_⟩
 ·obtain ⟨z1,z2⟩:=off_some z
  rw [e,upd_ne (ne_of_none z2 hc),upd_ne z1]
  exact z2
 ·rw [e,upd_ne (Ne.symm hn),upd_same,ht]
 ·rcases List.mem_append.mp hm with h | h
  ·have hcc:=h3 c h
   rw [e,upd_ne (ne_of_none hcc hc),upd_ne (fun z=>by rw [z,h2] at hcc; cases hcc)]
   exact hcc
  ·rw [List.mem_singleton.mp h,e,upd_same]
section
variable {Pt:Addr} {word:Addr→Option Str} {js:List Nat} {te:XK→TE} {σ:St} {H:Hp} {Q:VK}
theorem off_self:Same (off H Pt) H:=fun _ _ z=>(off_some z).2
theorem step0 (T:TK Pt 0 H) (h:∀ H1,Same (off H Pt) H1→TK Pt 1 H1→te (exWord word Q) (blkStart 0 js σ) H1 (fun _ H2=>Q (.str "") H2)):tTriedL Pt lam0 lamQ word js te σ H Q:=by
 obtain ⟨cs,h1,h2,h3⟩:=id T
 match cs,h1 with
 | [],_=>exact .made ⟨_,h2,trivial,rfl,fun c' H1 hc hn e=>let r:=tk_made (cs:=[]) rfl h2 h3 hc hn e rfl; h H1 r.1 r.2⟩
 | [c0,c1,c2,c3],_=>exact .hit ⟨_,c0,h2,⟨⟩,rfl,h3 c0 (by simp),h H off_self ⟨_,.inr rfl,h2,h3⟩⟩
 | [_],h1=>exact absurd h1 (by simp)
 | [_,_],h1=>exact absurd h1 (by simp)
 | [_,_,_],h1=>exact absurd h1 (by simp)
 | _::_::_::_::_::_,h1=>exact absurd h1 (by simp)
theorem step1 (T:TK Pt 1 H) (h:∀ H1,Same (off H Pt) H1→TK Pt 2 H1→te (exWord word Q) (blkStart 0 js σ) H1 (fun _ H2=>Q (.str "") H2)):tTriedL Pt lam1 lamQ word js te σ H Q:=by
 obtain ⟨cs,h1,h2,h3⟩:=id T
 match cs,h1 with
 | [c0],_=>exact .made ⟨_,h2,trivial,rfl,fun c' H1 hc hn e=>let r:=tk_made (cs:=[c0]) rfl h2 h3 hc hn e rfl; h H1 r.1 r.2⟩
 | [c0,c1,c2,c3],_=>exact .hit ⟨_,c1,h2,⟨⟩,rfl,h3 c1 (by simp),h H off_self ⟨_,.inr rfl,h2,h3⟩⟩
 | [],h1=>exact absurd h1 (by simp)
 | [_,_],h1=>exact absurd h1 (by simp)
 | [_,_,_],h1=>exact absurd h1 (by simp)
 | _::_::_::_::_::_,h1=>exact absurd h1 (by simp)
theorem step2 (T:TK Pt 2 H) (h:∀ H1,Same (off H Pt) H1→TK Pt 3 H1→te (exWord word Q) (blkStart 0 js σ) H1 (fun _ H2=>Q (.str "") H2)):tTriedL Pt lam2 lamQ word js te σ H Q:=by
 obtain ⟨cs,h1,h2,h3⟩:=id T
 match cs,h1 with
 | [c0,c1],_=>exact .made ⟨_,h2,trivial,rfl,fun c' H1 hc hn e=>let r:=tk_made (cs:=[c0,c1]) rfl h2 h3 hc hn e rfl; h H1 r.1 r.2⟩
 | [c0,c1,c2,c3],_=>exact .hit ⟨_,c2,h2,⟨⟩,rfl,h3 c2 (by simp),h H off_self ⟨_,.inr rfl,h2,h3⟩⟩
 | [],h1=>exact absurd h1 (by simp)
 | [_],h1=>exact absurd h1 (by simp)
 | [_,_,_],h1=>exact absurd h1 (by simp)
 | _::_::_::_::_::_,h1=>exact absurd h1 (by simp)
theorem step3 (T:TK Pt 3 H) (h:∀ H1,Same (off H Pt) H1→TK Pt 4 H1→te (exWord word Q) (blkStart 0 js σ) H1 (fun _ H2=>Q (.str "") H2)):tTriedL Pt lam3 lamQ word js te σ H Q:=by
 obtain ⟨cs,h1,h2,h3⟩:=id T
 match cs,h1 with
 | [c0,c1,c2],_=>exact .made ⟨_,h2,trivial,rfl,fun c' H1 hc hn e=>let r:=tk_made (cs:=[c0,c1,c2]) rfl h2 h3 hc hn e rfl; h H1 r.1 r.2⟩
 | [c0,c1,c2,c3],_=>exact .hit ⟨_,c3,h2,⟨⟩,rfl,h3 c3 (by simp),h H off_self ⟨_,.inr rfl,h2,h3⟩⟩
 | [],h1=>exact absurd h1 (by simp)
 | [_],h1=>exact absurd h1 (by simp)
 | [_,_],h1=>exact absurd h1 (by simp)
 | _::_::_::_::_::_,h1=>exact absurd h1 (by simp)
end
noncomputable abbrev odd5:List Str:=["none","","A","n0","room"]
noncomputable abbrev odd4:List V:=[.str "none",.str "A",.non,.str ""]
inductive spOdd (C CM Pt:Addr) (vs:List V) (H:Hp) (Q:VK) (E:XK):Prop
 | mk (X t n dd:Addr) (b z:Str) (c:Int) (es' es kn ms:List Str) (ds:List Dr) (ss:List Str) (wk:List (Key×V)) (h0_:vs=[.ref X,.str z,.ref n,.int c]) (h1_:MRow C CM H X t dd b es' es kn ms ds ss wk) (h2_:z∈roomsOf b es ds) (h3_:∀ u∈odd5,¬ goodR b es' ds u) (h4_:∀ y∈odd4,goodV wk y=false) (h5_:TK Pt 0 H) (h6_:∀ H',Same (off H Pt) H'→TK Pt 0 H'→Q (.bl true) H')
theorem odd5_at (c:Int):∃ u∈odd5,atI (odd5.map V.str) (c%5)=some (.str u):=by
 have h:=emod_in c (m:=5) (by decide)
 generalize c%5=r at h
 rcases (show r=0∨r=1∨r=2∨r=3∨r=4 by omega) with rfl | rfl | rfl | rfl | rfl <;> exact ⟨_,by simp,rfl⟩
theorem odd4_at (c:Int):∃ y∈odd4,atI odd4 (c/5%4)=some y:=by
 have h:=emod_in (c/5) (m:=4) (by decide)
 generalize c/5%4=r at h
 rcases (show r=0∨r=1∨r=2∨r=3 by omega) with rfl | rfl | rfl | rfl <;> exact ⟨_,by simp,rfl⟩
theorem odd5_len:∀ u∈odd5,u.length≤1000:=by decide +kernel
theorem odd4_thing:∀ y∈odd4,Thing y:=by
 intro y hy
 rcases List.mem_cons.mp hy with rfl | hy
 ·exact .inl ⟨_,rfl,by decide +kernel⟩
 rcases List.mem_cons.mp hy with rfl | hy
 ·exact .inl ⟨_,rfl,by decide +kernel⟩
 rcases List.mem_cons.mp hy with rfl | hy
 ·exact .inr (.inl rfl)
 rw [List.mem_singleton.mp hy]
 exact .inl ⟨_,rfl,by decide +kernel⟩
section
variable {C CM:Addr} {H:Hp} {X t dd:Addr} {b z:Str} {y:V} {es' es kn ms:List Str} {ds:List Dr} {ss:List Str} {wk:List (Key×V)} {cR cD:Addr} {word:Addr→Option Str} {Q:VK}
theorem lam_at (wR:word cR=some "NoRoom") (M:MRow C CM H X t dd b es' es kn ms ds ss wk) (hz:¬ goodR b es' ds z) (zl:z.length≤1000) (hQ:∀ H2,Same H H2→Q (.str "NoRoom") H2) :
  tMeth CM "at" (spMAtE CM cR) [] (exWord word Q) (tVar 0) (tCons (tVar 1) tNil) [some (.ref X),some (.str z)] H (fun _ H2=>Q (.str "") H2):=by
 obtain ⟨dx,lM,eM,kM,kvs,g,M0⟩:=M.mm
 exact ⟨_,rfl,X,dx,_,rfl,M0.ins,mFlds_mth _ _ _ _ _ _ (by decide),_,rfl,X,dd,b,z,es',kn,ds,ss,rfl,⟨dx,lM,eM,kM,kvs,g,M0⟩,zl,M.ap,M.dd',M.s64,fun good=>absurd good hz,fun _ H2 s2=>⟨cR,_,rfl,wR,fun H3 s3=>hQ H3 (s2.trans s3)⟩⟩
theorem lam_end (wR:word cR=some "NoRoom") (M:MRow C CM H X t dd b es' es kn ms ds ss wk) (hz:¬ goodR b es' ds z) (zl:z.length≤1000) (hQ:∀ H2,Same H H2→Q (.str "NoRoom") H2) :
  tMeth CM "is_end" (spMIsEndE CM cR) [] (exWord word Q) (tVar 0) (tCons (tVar 1) tNil) [some (.ref X),some (.str z)] H (fun _ H2=>Q (.str "") H2):=by
 obtain ⟨dx,lM,eM,kM,kvs,g,M0⟩:=M.mm
 exact ⟨_,rfl,X,dx,_,rfl,M0.ins,mFlds_mth _ _ _ _ _ _ (by decide),_,rfl,X,dd,b,z,es',kn,ds,rfl,⟨dx,lM,eM,kM,kvs,g,M0⟩,zl,fun good=>absurd good hz,fun _ H2 s2=>⟨cR,_,rfl,wR,fun H3 s3=>hQ H3 (s2.trans s3)⟩⟩
theorem lam_to (wR:word cR=some "NoRoom") (M:MRow C CM H X t dd b es' es kn ms ds ss wk) (hz:¬ goodR b es' ds z) (zl:z.length≤1000) (hy:Thing y) (hQ:∀ H2,Same H H2→Q (.str "NoRoom") H2) :
  tMeth CM "to" (spMToE C CM cR cD) [] (exWord word Q) (tVar 0) (tCons (tVar 1) (tCons (tVar 2) tNil)) [some (.ref X),some (.str z),some y] H (fun _ H2=>Q (.str "") H2):=by
 obtain ⟨dx,lM,eM,kM,kvs,g,M0⟩:=M.mm
 exact ⟨_,rfl,X,dx,_,rfl,M0.ins,mFlds_mth _ _ _ _ _ _ (by decide),_,rfl,_,rfl,X,dd,b,z,y,es',kn,ds,wk,rfl,⟨dx,lM,eM,kM,kvs,g,M0⟩,zl,M.wa,hy,fun good=>absurd good hz,fun good=>absurd good hz,fun _ H2 s2=>⟨cR,_,rfl,wR,fun H3 s3=>hQ H3 (s2.trans s3)⟩⟩
theorem lam_to2 (wD:word cD=some "NoDeed") (M:MRow C CM H X t dd b es' es kn ms ds ss wk) (hz:goodR b es' ds z) (hy:Thing y) (hg:goodV wk y=false) (hQ:∀ H2,Same H H2→Q (.str "NoDeed") H2) :
  tMeth CM "to" (spMToE C CM cR cD) [] (exWord word Q) (tVar 0) (tCons (tVar 1) (tCons (tVar 2) tNil)) [some (.ref X),some (.str z),some y] H (fun _ H2=>Q (.str "") H2):=by
 obtain ⟨dx,lM,eM,kM,kvs,g,M0⟩:=M.mm
 exact ⟨_,rfl,X,dx,_,rfl,M0.ins,mFlds_mth _ _ _ _ _ _ (by decide),_,rfl,_,rfl,X,dd,b,z,y,es',kn,ds,wk,rfl,⟨dx,lM,eM,kM,kvs,g,M0⟩,Nat.le_trans (name_len hz.1) (by decide),M.wa,hy,fun _ gd=>absurd (gd.symm.trans hg) (by decide),fun _ _ H2 s2=>⟨cD,_,rfl,wD,fun H3 s3=>hQ H3 (s2.trans s3)⟩,fun bad=>absurd hz bad⟩
end
end K14
namespace K14
open PySem L2 Ky
seal L2.PE L2.PS L2.PSs L2.PA L2.PT L2.PW L2.PG L2.PI L2.PTs L2.PO L2.OpR L2.IxR L2.CallR L2.MtM L2.MtR
unseal L2.MtM L2.MtR
theorem word1 {K:PySem.W.Frag} {mg:Str→Option Value} {ds:Nat→Addr} (W:Wd K mg ds):wordOf ds (ds 1)=some "NoDeed":=if_pos rfl
theorem word2 {K:PySem.W.Frag} {mg:Str→Option Value} {ds:Nat→Addr} (W:Wd K mg ds):wordOf ds (ds 2)=some "NoRoom":=by
 unfold wordOf
 rw [if_neg (W.ne (i:=2) (j:=1) (by decide) (by decide) (by decide))]
 exact if_pos rfl
theorem TK.put {Pt wl:Addr} {j:Nat} {H:Hp} {xs ys:List V} (T:TK Pt j H) (hw:H wl=some (.lst xs)):TK Pt j (upd H wl (.lst ys)):=by
 obtain ⟨cs,h1,h2,h3⟩:=T
 refine ⟨cs,h1,?_,fun c hc=>?_⟩
 ·rw [upd_ne fun e=>by rw [← e,h2] at hw; cases hw]
  exact h2
 ·have:=h3 c hc
  rw [upd_ne fun e=>by rw [← e,this] at hw; cases hw]
  exact this
structure OS (H:Hp) (Pt wl:Addr) (k:Nat) (ws:List Str) (Hk:Hp):Prop where
 o:Same (off H Pt) Hk
 t:TK Pt k Hk
 w:Hk wl=some (.lst (ws.map V.str))
 f:∀ b o,off H Pt b=some o→b≠wl
theorem OS.next {H Hk H6 H7:Hp} {Pt wl:Addr} {k:Nat} {ws:List Str} (O:OS H Pt wl k ws Hk) (a6:Same (off Hk Pt) H6) (t6:TK Pt (k+1) H6) (s7:Same H6 H7) (x:Str):H7 wl=some (.lst (ws.map V.str))∧OS H Pt wl (k+1) (ws++[x]) (upd H7 wl (.lst (ws.map V.str++[.str x]))):=by
 obtain ⟨ps,hp⟩:=O.t.tb
 have hw:H7 wl=some (.lst (ws.map V.str)):=s7 _ _ (a6 _ _ (off_of hp O.w fun _ z=>nomatch z))
 have o7:Same (off H Pt) H7:=((off_off O.o).trans a6).trans s7
 refine ⟨hw,fun b o e=>?_,(t6.same s7).put hw,?_,O.f⟩
 ·rw [upd_ne (O.f b o e)]
  exact o7 b o e
 ·rw [upd_same,List.map_append]
  rfl
section
variable {P:Program} {w:World} {K:PySem.W.Frag} {mg:Str→Option Value} {base:Heap}
theorem scT:FnScope NT ["_law_deed"] (defScope sTried):=⟨rfl,rfl,rfl,by decide +kernel,rfl,by decide +kernel,by decide +kernel⟩
noncomputable abbrev NOd:List Str:=["_law_machine","_law_room","_law_names","_law_cell","_law_odd_here","_law_some","_law_words"]
theorem scOd:FnScope NOd ["_law_machine","_law_room","_law_names","_law_cell"] (defScope sOdd):=⟨rfl,rfl,rfl,by decide +kernel,rfl,by decide +kernel,by decide +kernel⟩
theorem ok_odd {f fA fE fT ft fw C CM W c0 Pt:Addr} {fdA fdE fdT fdt fdw:FuncData} {ds:Nat→Addr} {oc kV doc pm ct:Value} {an od:Option Addr} {osl:Array (Option Value)}
  (lk:K.lookup f=some ⟨oc,od,.func (PySem.W.fnOf "_law_odd" "_law_odd" (defArgs sOdd) (defBody sOdd) (defScope sOdd) .none kV doc pm an (.ref c0) ct),osl⟩) (hcd:PySem.W.codeIn K (.ref c0) "_law_odd" = true) (hhd:PySem.W.codeHdIn K c0 Pt=true) (bm:BMain mg base)
  (T:Txt K mg) (MC:MCls K CM) (Wf:Wd K mg ds) (hkw:∀ i∈thrown,PySem.W.exmOne K (.ref (ds i)) (.ref W)=some true) (mWd:mg "WardError"=some (.ref W))
  (GA:FnOk P w K mg base (CXE P w) 3 fA fdA ["self","room"] (spMAtE CM (ds 2))) (bA:Binds K fdA ["self","room"] []) (mA:Meth K CM "at" fA)
  (GE:FnOk P w K mg base (CXE P w) 3 fE fdE ["self","room"] (spMIsEndE CM (ds 2))) (bE:Binds K fdE ["self","room"] []) (mE:Meth K CM "is_end" fE)
  (GT:FnOk P w K mg base (CXE P w) 4 fT fdT ["self","room","deed"] (spMToE C CM (ds 2) (ds 1))) (bTo:Binds K fdT ["self","room","deed"] []) (mTo:Meth K CM "to" fT)
  (FT:Fun K "_law_tried" "_law_tried" sTried ft fdt) (bT:Binds K fdt ["_law_deed"] []) (mT:mg "_law_tried" = some (.ref ft))
  (GW:FnOkU P w K mg base 1 fw fdw ["_law_e"] (spWord (wordOf ds))) (kW:PySem.W.keepIn K (.ref fw)=true) (bW:Binds K fdw ["_law_e"] []) (mW:mg "_law_word" = some (.ref fw)) :
  FnOk P w K mg base CX0 8 f (PySem.W.fnOf "_law_odd" "_law_odd" (defArgs sOdd) (defBody sOdd) (defScope sOdd) .none kV doc pm an (.ref c0) ct) ["_law_machine","_law_room","_law_names","_law_cell"] (spOdd C CM Pt):=by
 refine fn_of lk hcd scOd (fun vs H Q E h=>?_) (fun A outer s H vs Q E hr h=>?_)
 ·obtain ⟨X,t,n,dd,b,z,c,es',es,kn,ms,dr,ss,wk,rfl,_⟩:=h
  rfl
 ·obtain ⟨X,t,n,dd,b,z,c,es',es,kn,ms,dr,ss,wk,rfl,M,hz,ho,hs,tk,q⟩:=h
  have TR:Tried (cxOf CX0 P w K mg base NOd "_law_odd" (defScope sOdd) f (.ref c0) A outer s H E).nox sTried ft fdt W fw fdw (wordOf ds):=⟨FT,scT,⟨_,_,_,_,_,_,_,_,_,_,_,_,_,rfl⟩,bT,mT,mWd,mW,kW,bW,GW,rfl,rfl,rfl,rfl,fun C x h=>by
   obtain ⟨i,hi,rfl,_⟩:=wordOf_at h
   exact hkw i hi⟩
  have hu:=hu_of hr
  have hu0:=Nat.lt_of_succ_lt hu
  suffices main:∃ t,PSs (cxOf CX0 P w K mg base NOd "_law_odd" (defScope sOdd) f (.ref c0) A outer s H E).nox (defBody sOdd) t∧t { nx:=fun _ H'=>Q .non H',rt:=Q } (start NOd [.ref X,.str z,.ref n,.int c]) H by
   obtain ⟨t,h1,h2⟩:=main
   exact ⟨t,h1.nox,h2⟩
  refine ⟨_,pss_cons (ps_set (i:=4) scOd.nd rfl (Or.inr rfl) (pe_ix ix_list (pe_lst (pac pe_str (pac pe_str (pac pe_str (pac pe_str (pac pe_str pa_nil)))))) (pe_op op_mod (pv 3) pe_int) (fun _ _=>rfl)))
   (pss_cons (ps_set (i:=5) scOd.nd rfl (Or.inr rfl) (pe_ix ix_list (pe_lst (pac pe_str (pac pe_str (pac pe_non (pac pe_str pa_nil))))) (pe_op op_mod (pe_op op_fdiv (pv 3) pe_int) pe_int) (fun _ _=>rfl)))
   (pss_cons (ps_set (i:=6) scOd.nd rfl (Or.inl rfl) (pe_lst (pac
     (pe_triedL (k:=4) (P:=Pt) (NL:=["_law_machine","_law_odd_here"]) (js:=[0,4]) (te:=fun Ew=>tMeth CM "at" (spMAtE CM (ds 2)) [] Ew (tVar 0) (tCons (tVar 1) tNil)) TR (fun _=>rfl) rfl hr rfl rfl hhd bm ⟨rfl,rfl,rfl,by decide +kernel,by decide +kernel⟩
      (blkNames (defScope sOdd) NOd rfl rfl (by decide +kernel)) rfl (fun _ _ _ _=>rfl)
      (fun Ew cdv A outer s H pn E f c' s' H' hr=>pe_meth (E:=Ew) (pv 0) MC.cl mA GA (hr.mono (by decide)) bA .nil (bodyLam.passes fun _ _ _ z=>z) (pac (pv 1) pa_nil))) pa_nil)))
   (pss_cons (ps_expr (pe_bm PySem.F.plainAttrs_list PySem.F.slot_list_append PySem.F.type_list_append mt_append (pv 6) (pac
     (pe_triedL (k:=4) (P:=Pt) (NL:=["_law_machine","_law_odd_here"]) (js:=[0,4]) (te:=fun Ew=>tMeth CM "is_end" (spMIsEndE CM (ds 2)) [] Ew (tVar 0) (tCons (tVar 1) tNil)) TR (fun _=>rfl) rfl hr rfl rfl hhd bm ⟨rfl,rfl,rfl,by decide +kernel,by decide +kernel⟩
      (blkNames (defScope sOdd) NOd rfl rfl (by decide +kernel)) rfl (fun _ _ _ _=>rfl)
      (fun Ew cdv A outer s H pn E f c' s' H' hr=>pe_meth (E:=Ew) (pv 0) MC.cl mE GE (hr.mono (by decide)) bE .nil (bodyLam.passes fun _ _ _ z=>z) (pac (pv 1) pa_nil))) pa_nil)))
   (pss_cons (ps_expr (pe_bm PySem.F.plainAttrs_list PySem.F.slot_list_append PySem.F.type_list_append mt_append (pv 6) (pac
     (pe_triedL (k:=4) (P:=Pt) (NL:=["_law_machine","_law_odd_here","_law_some"]) (js:=[0,4,5]) (te:=fun Ew=>tMeth CM "to" (spMToE C CM (ds 2) (ds 1)) [] Ew (tVar 0) (tCons (tVar 1) (tCons (tVar 2) tNil))) TR (fun _=>rfl) rfl hr rfl rfl hhd bm ⟨rfl,rfl,rfl,by decide +kernel,by decide +kernel⟩
      (blkNames (defScope sOdd) NOd rfl rfl (by decide +kernel)) rfl (fun _ _ _ _=>rfl)
      (fun Ew cdv A outer s H pn E f c' s' H' hr=>pe_meth (E:=Ew) (pv 0) MC.cl mTo GT (hr.mono (by decide)) bTo .nil (bodyLam.passes fun _ _ _ z=>z) (pac (pv 1) (pac (pv 2) pa_nil)))) pa_nil)))
   (pss_cons (ps_expr (pe_bm PySem.F.plainAttrs_list PySem.F.slot_list_append PySem.F.type_list_append mt_append (pv 6) (pac
     (pe_triedL (k:=4) (P:=Pt) (NL:=["_law_machine","_law_room","_law_some"]) (js:=[0,1,5]) (te:=fun Ew=>tMeth CM "to" (spMToE C CM (ds 2) (ds 1)) [] Ew (tVar 0) (tCons (tVar 1) (tCons (tVar 2) tNil))) TR (fun _=>rfl) rfl hr rfl rfl hhd bm ⟨rfl,rfl,rfl,by decide +kernel,by decide +kernel⟩
      (blkNames (defScope sOdd) NOd rfl rfl (by decide +kernel)) rfl (fun _ _ _ _=>rfl)
      (fun Ew cdv A outer s H pn E f c' s' H' hr=>pe_meth (E:=Ew) (pv 0) MC.cl mTo GT (hr.mono (by decide)) bTo .nil (bodyLam.passes fun _ _ _ z=>z) (pac (pv 1) (pac (pv 2) pa_nil)))) pa_nil)))
   (pss_one (ps_ret (pe_cmpR (op_eqSs hu0) (pv 6) (pe_lst (pac pe_str (pac pe_str (pac pe_str (pac pe_str pa_nil))))) (nomark _))))))))),?_⟩
  obtain ⟨u,hu5,eu⟩:=odd5_at c
  obtain ⟨y,hy4,ey⟩:=odd4_at c
  have w1:=word1 Wf
  have w2:=word2 Wf
  have zl:=odd5_len u hu5
  have bad:=ho u hu5
  have ty:=odd4_thing y hy4
  refine ⟨by show 5≤sizeLine; decide,fun p1 hp1=>⟨_,rfl,_,_,rfl,rfl,(by show (0:Int)<5; decide),p1,_,_,.str u,rfl,rfl,SqL.of upd_same,eu,?_⟩⟩
  refine ⟨by show 4≤sizeLine; decide,fun p2 hp2=>⟨_,rfl,_,_,rfl,rfl,⟨by decide,by decide⟩,_,_,rfl,rfl,(by show (0:Int)<4; decide),p2,_,_,y,rfl,rfl,SqL.of upd_same,ey,?_⟩⟩
  generalize hH2:upd (upd H p1 _) p2 _=H2
  have s2:Same H H2:=by rw [← hH2]; exact (smu hp1).trans (smu hp2)
  clear hH2
  obtain ⟨ps0,hPt⟩:=tk.tb
  have O2:Same (off H Pt) H2:=off_same s2
  have MO:=offMR hPt M
  refine step0 (tk.same s2) fun H3 a3 t3=>lam_at w2 (MO.same ((off_off O2).trans a3)) bad zl fun H4 s4=>?_
  refine ⟨by show 1≤sizeLine; decide,fun wl hwl=>?_⟩
  have o4:Same (off H Pt) H4:=((off_off O2).trans a3).trans s4
  have S0:OS H Pt wl 1 ["NoRoom"] (upd H4 wl (.lst [.str "NoRoom"])):=⟨o4.trans (smu hwl),(t3.same s4).same (smu hwl),upd_same,fun b o e=>ne_of_none (o4 _ _ e) hwl⟩
  generalize upd H4 wl (.lst [.str "NoRoom"])=H5 at S0 ⊢
  refine ⟨_,rfl,.inl ⟨rfl,_,SqL.of S0.w⟩,step1 S0.t fun H6 a6 t6=>lam_end w2 (MO.same ((off_off S0.o).trans a6)) bad zl fun H7 s7=>?_⟩
  obtain ⟨hw7,S1⟩:=S0.next a6 t6 s7 "NoRoom"
  refine ⟨wl,_,_,rfl,rfl,hw7,by decide,?_⟩
  generalize upd H7 wl (.lst (List.map V.str ["NoRoom"]++[.str "NoRoom"]))=H8 at S1 ⊢
  refine ⟨_,rfl,.inl ⟨rfl,_,SqL.of S1.w⟩,step2 S1.t fun H9 a9 t9=>lam_to w2 (MO.same ((off_off S1.o).trans a9)) bad zl ty fun H10 s10=>?_⟩
  obtain ⟨hw10,S2⟩:=S1.next a9 t9 s10 "NoRoom"
  refine ⟨wl,_,_,rfl,rfl,hw10,by decide,?_⟩
  generalize upd H10 wl _=H11 at S2 ⊢
  refine ⟨_,rfl,.inl ⟨rfl,_,SqL.of S2.w⟩,step3 S2.t fun H12 a12 t12=>lam_to2 w1 (MO.same ((off_off S2.o).trans a12)) (M.good hz) ty (hs y hy4) fun H13 s13=>?_⟩
  obtain ⟨hw13,S3⟩:=S2.next a12 t12 s13 "NoDeed"
  refine ⟨wl,_,_,rfl,rfl,hw13,by decide,?_⟩
  generalize upd H13 wl _=H14 at S3 ⊢
  refine ⟨_,rfl,by show 4≤sizeLine; decide,fun p9 hp9=>?_⟩
  refine ⟨wl,p9,_,["NoRoom","NoRoom","NoRoom","NoDeed"],rfl,rfl,SqL.of (smu hp9 _ _ S3.w),SqL.of upd_same,?_⟩
  have:=q _ (S3.o.trans (smu (o:=.lst [.str "NoRoom",.str "NoRoom",.str "NoRoom",.str "NoDeed"]) hp9)) ((S3.t.same (smu hp9)).last)
  exact this
end
end K14
namespace K14
open PySem L2 Ky
seal L2.PE L2.PS L2.PSs L2.PA L2.PT L2.PW L2.PG L2.PI L2.PTs L2.PO L2.OpR L2.IxR L2.CallR L2.MtM L2.MtR
unseal L2.MtM L2.MtR
theorem cut_to (xs:List Str) (n:Nat):cutV (xs.map V.str) none (some (n:Int))=(xs.take n).map V.str:=by
 unfold cutV
 rw [HT.sIx_none,HT.sIx_nat,Nat.sub_zero,List.drop_zero,List.map_take]
 by_cases h:n≤(xs.map V.str).length
 ·rw [Nat.min_eq_left h]
 ·rw [Nat.min_eq_right (by omega),List.take_of_length_le (Nat.le_refl _),List.take_of_length_le (by omega)]
theorem cut1 (xs:List Str):cutV (xs.map V.str) none (some 1)=(xs.take 1).map V.str:=cut_to xs 1
theorem good_of {S ss:List Str} (pm:S.Perm ss) (hn:∀ z∈ss,isNameS z=true):∀ z∈ss,goodV (wts S 1 []) (.str z)=true:=fun z hz=>by
 rw [goodV,valV_wts,hn z hz]
 simp [pm.mem_iff.mpr hz]
theorem bad_s {S ss:List Str} (pm:S.Perm ss) (h12:∀ z∈ss,z∈some12) {u:Str} (hu:u∉some12):goodV (wts S 1 []) (.str u)=false:=by
 rw [goodV,valV_wts]
 have:¬ u∈S:=fun h=>hu (h12 _ (pm.mem_iff.mp h))
 simp [this,valV]
theorem bad4 {S ss:List Str} (pm:S.Perm ss) (h12:∀ z∈ss,z∈some12):∀ y∈odd4,goodV (wts S 1 []) y=false:=by
 intro y hy
 rcases List.mem_cons.mp hy with rfl | hy
 ·exact bad_s pm h12 (by decide +kernel)
 rcases List.mem_cons.mp hy with rfl | hy
 ·exact bad_s pm h12 (by decide +kernel)
 rcases List.mem_cons.mp hy with rfl | hy
 ·rfl
 rw [List.mem_singleton.mp hy]
 exact bad_s pm h12 (by decide +kernel)
noncomputable abbrev two (es:List Str):List Str:=es++es.take 1
theorem mem_two {es:List Str} (z:Str):z∈two es↔z∈es:=by
 rw [List.mem_append]
 exact ⟨fun h=>h.elim id fun h=>List.mem_of_mem_take h,.inl⟩
theorem two_len (es:List Str):(two es).length≤es.length+1:=by
 rw [List.length_append,List.length_take]
 omega
theorem rooms_two {b:Str} {es:List Str} {ds:List Dr} (z:Str):z∈roomsOf b (two es) ds↔z∈roomsOf b es ds:=by
 unfold roomsOf
 rw [List.mem_append,List.mem_append,List.mem_cons,List.mem_cons,mem_two]
theorem known_two {ms:List Str} {ds:List Dr} (z:Str):z∈knownOf ds (two ms)↔z∈knownOf ds ms:=by
 unfold knownOf
 rw [List.mem_append,mem_two,List.mem_append]
noncomputable def NLs (H H':Hp):Prop:=∀ b o,H b=some o→(∀ xs,o≠.lst xs)→H' b=some o
theorem mm_nl {CM:Addr} {H H':Hp} {x dd:Addr} {b:Str} {es kn:List Str} {ds:List Dr} (h:MM CM H x dd b es kn ds) (s:NLs H H'):MM CM H' x dd b es kn ds:=by
 obtain ⟨dx,l,e,k,kvs,g,M⟩:=h
 exact ⟨dx,l,e,k,kvs,g,⟨s _ _ M.ins (fun _ z=>nomatch z),⟨s _ _ M.lead.dk (fun _ z=>nomatch z),M.lead.keys,M.lead.val,fun z hz=>s _ _ (M.lead.dd z hz) (fun _ z=>nomatch z),M.lead.inj,M.lead.ne⟩,s _ _ M.ends (fun _ z=>nomatch z),s _ _ M.know (fun _ z=>nomatch z)⟩⟩
theorem nls_put {H:Hp} {l:Addr} {xs ys:List V} (hm:H l=some (.lst xs)):NLs H (upd H l (.lst ys)):=fun b o e n=>by
 rw [upd_ne (fun z=>by rw [z,hm] at e; exact n _ (Option.some.inj e).symm)]
 exact e
theorem mks_len (rs:List Str):(mks rs []).length=(unl rs []).length:=by
 have:=congrArg List.length (mks_unl rs [] [] rfl)
 simpa using this
theorem RowOk.ul {c:Int} {n:Nat} {ss:List Str} (R:RowOk c n ss) (h5:n≤5):(unl (roomsOf (roomAt c 0) (endsBy c n) (doorsBy c ss n)) []).length≤5:=by
 have:=unl_small R.rb
 rw [roomsBy_len] at this
 omega
theorem mrow2 {C CM:Addr} {H:Hp} {X t x:Addr} {c:Int} {n:Nat} {ss es' kn ms:List Str} {wk:List (Key×V)} (R:RowOk c n ss) (h5:n≤5) (h12:ss.length≤12) (hg:∀ z∈ss,goodV wk (.str z)=true)
  (hM:MM CM H X x (roomAt c 0) es' kn (doorsBy c ss n)) (hR:RowQ H t (roomAt c 0) (endsBy c n) (doorsBy c ss n) ms) (hW:WAt C H x wk) (he:∀ z,z∈es'↔z∈endsBy c n) (hk:∀ z,z∈kn↔z∈knownOf (doorsBy c ss n) ms)
  (hm:∀ z∈ms,z∈moreBy c ss) (hml:ms.length≤200):MRow C CM H X t x (roomAt c 0) es' (endsBy c n) kn ms (doorsBy c ss n) ss wk:=
 ⟨hM,hR,hW,⟨R.le.1,R.le.2.1,hml⟩,List.all_eq_true.mp R.nm,Nat.lt_of_le_of_lt (R.ul h5) (by decide),by omega,R.dd,fun z hz=>R.kn z (List.mem_append_right _ (hm z hz)),hg,R.ap,he,hk⟩
theorem RowOk.odd {c:Int} {n:Nat} {ss es':List Str} (R:RowOk c n ss) (he:∀ z,z∈es'↔z∈endsBy c n):∀ u∈odd5,¬ goodR (roomAt c 0) es' (doorsBy c ss n) u:=fun u hu g=>by
 refine roomsBy_odd (c:=c) (n:=n) u (R.rb u ?_) hu
 have:=g.2
 unfold roomsOf at this ⊢
 rw [List.mem_append,List.mem_cons,he] at this
 rw [List.mem_append,List.mem_cons]
 exact this
theorem allG {wk:List (Key×V)} {ss l:List Str} (hg:∀ z∈ss,goodV wk (.str z)=true) (h:∀ z∈l,z∈ss):(l.map V.str).all (goodV wk)=true:=List.all_eq_true.mpr fun y hy=>by
 obtain ⟨z,hz,rfl⟩:=List.mem_map.mp hy
 exact hg z (h z hz)
structure LL (H0:Hp) (ls:List Addr) (i:Nat) (H':Hp):Prop where
 keep:∀ b o,H0 b=some o→b∉ls→H' b=some o
 list:∀ l∈ls,∃ xs,H' l=some (.lst xs)∧xs.length≤300+i
theorem LL.put {H0 H':Hp} {ls:List Addr} {i:Nat} {l:Addr} {ys:List V} (h:LL H0 ls i H') (hl:l∈ls) (hy:ys.length≤300+(i+1)):LL H0 ls (i+1) (upd H' l (.lst ys)):=by
 refine ⟨fun b o e nb=>?_,fun l' hl'=>?_⟩
 ·rw [upd_ne (fun z=>nb (by rw [z]; exact hl))]
  exact h.keep b o e nb
 ·by_cases e:l'=l
  ·subst e
   exact ⟨ys,upd_same,hy⟩
  ·obtain ⟨xs,h1,h2⟩:=h.list l' hl'
   exact ⟨xs,by rw [upd_ne e]; exact h1,by omega⟩
theorem LL.nls {H0 H':Hp} {ls:List Addr} {i:Nat} (h:LL H0 ls i H') (hl:∀ l∈ls,∃ xs,H0 l=some (.lst xs)):NLs H0 H':=fun b o e n=>h.keep b o e fun hb=>by
 obtain ⟨xs,hx⟩:=hl b hb
 rw [e] at hx
 exact n xs (Option.some.inj hx)
theorem LL.same {B H0 H':Hp} {ls:List Addr} {i:Nat} (h:LL H0 ls i H') (s:Same B H0) (f:∀ l∈ls,B l=none):Same B H':=fun b o e=>h.keep b o (s b o e) fun hb=>by
 rw [f b hb] at e
 cases e
theorem notIn {H:Hp} {ls:List Addr} {p:Addr} (f:∀ l∈ls,∃ xs,H l=some (.lst xs)) (hp:H p=none):p∉ls:=fun h=>by
 obtain ⟨xs,e⟩:=f p h
 rw [hp] at e
 cases e
theorem all3 {p:Addr→Prop} {a b c:Addr} (h1:p a) (h2:p b) (h3:p c):∀ l∈[a,b,c],p l:=fun l hl=>by
 rcases List.mem_cons.mp hl with rfl | hl
 ·exact h1
 rcases List.mem_cons.mp hl with rfl | hl
 ·exact h2
 rw [List.mem_singleton.mp hl]
 exact h3
theorem all4 {p:Addr→Prop} {a b c d:Addr} (h1:p a) (h2:p b) (h3:p c) (h4:p d):∀ l∈[a,b,c,d],p l:=fun l hl=>by
 rcases List.mem_cons.mp hl with rfl | hl
 ·exact h1
 exact all3 h2 h3 h4 l hl
noncomputable abbrev ix:Why→Nat
 | .noName=>0
 | .noDeed=>1
 | .twice=>3
 | .tooMany=>4
noncomputable abbrev MMr (CM:Addr) (H:Hp) (X x:Addr) (c:Int) (n:Nat) (ss:List Str):Prop:=MM CM H X x (roomAt c 0) (two (endsBy c n)) (knownOf (doorsBy c ss n) (two (moreBy c ss))) (doorsBy c ss n)
section
variable {P:Program} {w:World} {K:PySem.W.Frag} {mg:Str→Option Value} {base:Heap}
noncomputable abbrev ssOf (ns:List Int):List Str:=namesBy (RW.cellAt ns 0/256) (manyOf (RW.cellAt ns 0))
noncomputable abbrev fsOf (ns:List Int):List Str:=freeBy (RW.cellAt ns 0) (ssOf ns)
noncomputable abbrev plOf (ns:List Int):List (Int×Nat):=plant (RW.cellAt ns 1) (RW.cellAt ns 2) (RW.cellAt ns 3)
noncomputable abbrev N14:List Str:=["_law_script","_law_names","_law_free","_law_deeds","_law_plant","_law_made","_law_row","_law_handed","_law_machine","_law_one","_law_held","_law_plain"]
theorem scL:FnScope N14 ["_law_script"] (defScope sLaw):=⟨rfl,rfl,rfl,by decide +kernel,rfl,by decide +kernel,by decide +kernel⟩
noncomputable abbrev ndk:List Str:=["_law_k","_law_script"]
noncomputable abbrev ndm:List Str:=["_law_k","_law_made","_law_plant"]
inductive spLaw (K:PySem.W.Frag) (Pt:Addr) (vs:List V) (H:Hp) (Q:VK) (E:XK):Prop
 | mk (a:Addr) (ns:List Int) (h0_:vs=[.ref a]) (h1_:SqL K H a (ns.map V.int)) (h2_:ns.length≤63) (h3_:H Pt=some (.tbl #[])) (h4_:∀ H',Q (.bl true) H')
theorem ok_law {f fC fD fI fP fMI fDe fRo fEn fKn fAt fTo fDT fOd C CM Pt:Addr} {fd fdC fdD fdI fdP fdMI fdDe fdRo fdEn fdKn fdAt fdTo fdDT fdOd:FuncData} {ds:Nat→Addr}
  (F:Fun K "law" "law" sLaw f fd) (T:Txt K mg) (MC:MCls K CM) (NC:NoCmp K C)
  (GC:FnOk P w K mg base CX0 2 fC fdC ["_law_script","_law_k"] (spCell K)) (kC:PySem.W.keepIn K (.ref fC)=true) (bC:Binds K fdC ["_law_script","_law_k"] []) (mC:mg "_law_cell_at" = some (.ref fC))
  (GD:FnOk P w K mg base CX0 2 fD fdD ["_law_cell"] (spDeedsBy K)) (kD:PySem.W.keepIn K (.ref fD)=true) (bD:Binds K fdD ["_law_cell"] []) (mD:mg "_law_deeds_by" = some (.ref fD))
  (GI:FnOk P w K mg base (CXE P w) 4 fI fdI ["self","names","free"] (spInit K C fun k=>ds (ix k))) (MI:Mk K C fI) (bI:Binds K fdI ["self","names","free"] []) (mDs:mg "Deeds" = some (.ref C))
  (GP:FnOk P w K mg base CX0 3 fP fdP ["_law_cells","_law_names"] (spPlantBy K)) (kP:PySem.W.keepIn K (.ref fP)=true) (bP:Binds K fdP ["_law_cells","_law_names"] []) (mP:mg "_law_plant_by" = some (.ref fP))
  (GMI:FnOk P w K mg base (CXE P w) 4 fMI fdMI ["self","deeds","begin","ends","doors","more"] (spMInit K C CM)) (MMk:Mk K CM fMI) (bMI:Binds K fdMI ["self","deeds","begin","ends","doors","more"] []) (bMI1:Binds K fdMI ["self","deeds","begin","ends","doors","more"] [.none]) (mMa:mg "Machine" = some (.ref CM))
  (GDe:FnOk P w K mg base CX0 1 fDe fdDe ["self"] (spMDeeds CM)) (bDe:Binds K fdDe ["self"] []) (mDe:Meth K CM "deeds" fDe)
  (GRo:FnOk P w K mg base CX0 1 fRo fdRo ["self"] (spMSort CM fRooms)) (bRo:Binds K fdRo ["self"] []) (mRo:Meth K CM "rooms" fRo)
  (GEn:FnOk P w K mg base CX0 1 fEn fdEn ["self"] (spMSort CM fEnds)) (bEn:Binds K fdEn ["self"] []) (mEn:Meth K CM "ends" fEn)
  (GKn:FnOk P w K mg base CX0 1 fKn fdKn ["self"] (spMSort CM fKnows)) (bKn:Binds K fdKn ["self"] []) (mKn:Meth K CM "knows" fKn)
  (GAt:FnOk P w K mg base (CXE P w) 3 fAt fdAt ["self","room"] (spMAtE CM (ds 2))) (bAt:Binds K fdAt ["self","room"] []) (mAt:Meth K CM "at" fAt)
  (GTo:FnOk P w K mg base CX0 2 fTo fdTo ["_law_machine","_law_row"] (spTold C CM)) (kTo:PySem.W.keepIn K (.ref fTo)=true) (bTo:Binds K fdTo ["_law_machine","_law_row"] []) (mTo:mg "_law_told" = some (.ref fTo))
  (GDT:FnOk P w K mg base CX0 5 fDT fdDT ["_law_machine","_law_row","_law_names"] (spDoorsTold K C CM)) (kDT:PySem.W.keepIn K (.ref fDT)=true) (bDT:Binds K fdDT ["_law_machine","_law_row","_law_names"] []) (mDT:mg "_law_doors_told" = some (.ref fDT))
  (GOd:FnOk P w K mg base CX0 8 fOd fdOd ["_law_machine","_law_room","_law_names","_law_cell"] (spOdd C CM Pt)) (kOd:PySem.W.keepIn K (.ref fOd)=true) (bOd:Binds K fdOd ["_law_machine","_law_room","_law_names","_law_cell"] []) (mOd:mg "_law_odd" = some (.ref fOd)) :
  FnOk P w K mg base CX0 9 f fd ["_law_script"] (spLaw K Pt):=by
 refine F.ok scL (fun vs H Q E h=>?_) (fun cdv A outer s H vs Q E hr h=>?_)
 ·obtain ⟨a,ns,rfl,_⟩:=h
  rfl
 ·obtain ⟨a,ns,rfl,hS,hlen,hP,k⟩:=h
  have hr1:Room 1 _:=hr.mono (by decide)
  have hr2:Room 2 _:=hr.mono (by decide)
  have hr3:Room 3 _:=hr.mono (by decide)
  have hr5:Room 5 _:=hr.mono (by decide)
  have hu:=hu_of hr
  have hu0:=Nat.lt_of_succ_lt hu
  refine ⟨_,pss_cons (ps_asg (pe_call GD hr2 rfl mD kD bD .nil pass0 (pac (pe_call GC hr2 rfl mC kC bC .nil pass0 (pac (pv 0) (pac pe_int pa_nil))) pa_nil)) (pg_tup rfl (pgs_cons (pg_name (i:=1) scL.nd rfl (Or.inl rfl)) (pgs_cons (pg_name (i:=2) scL.nd rfl (Or.inl rfl)) pgs_nil))))
   (pss_cons (ps_set (i:=3) scL.nd rfl (Or.inl rfl) (pe_make MI GI hr5 rfl mDs bI .nil passF (pac (pv 1) (pac (pv 2) pa_nil))))
   (pss_cons (ps_set (i:=4) scL.nd rfl (Or.inr rfl) (pe_call GP hr3 rfl mP kP bP .nil pass0 (pac (pe_comp (N':=ndk) (nown:=1) (js:=[0]) rfl
     ⟨rfl,by decide +kernel,by decide +kernel⟩ (blkNames (defScope sLaw) N14 rfl rfl (by decide +kernel))
     ⟨fun _ _ _ _=>pg_name (i:=0) (show List.Nodup ndk by decide +kernel) rfl (Or.inl rfl) (.inr rfl),fun _ _ _ _=>pts_nil,fun _ _ _ _=>pe_call GC hr2 rfl mC kC bC .nil pass0 (pac (pv 1) (pac (pv 0) pa_nil))⟩
     (pi_range2 rfl T.range (pac pe_int (pac pe_int pa_nil)))) (pac (pv 1) pa_nil))))
   (pss_cons (ps_set (i:=5) scL.nd rfl (Or.inr rfl) (pe_lst pa_nil))
   (pss_cons (ps_for PassesOwn.never rfl (pi_list (pv 4)) (pg_name (i:=6) scL.nd rfl (Or.inl rfl))
    (pss_cons (ps_set (i:=7) scL.nd rfl (Or.inl rfl) (pe_lst (pac (pe_op op_cat (pe_callTy call_list_of (by rfl) T.list Bo.list (pac (pe_ix ix_tup (pv 6) pe_int (fun _ _=>rfl)) pa_nil)) (pe_slice sl_list (pe_ix ix_tup (pv 6) pe_int (fun _ _=>rfl)) po_none (po_some pe_int)))
     (pac (pe_callTy call_list_of (by rfl) T.list Bo.list (pac (pe_ix ix_tup (pv 6) pe_int (fun _ _=>rfl)) pa_nil))
     (pac (pe_op op_cat (pe_callTy call_list_of (by rfl) T.list Bo.list (pac (pe_ix ix_tup (pv 6) pe_int (fun _ _=>rfl)) pa_nil)) (pe_slice sl_list (pe_ix ix_tup (pv 6) pe_int (fun _ _=>rfl)) po_none (po_some pe_int))) pa_nil)))))
    (pss_cons (ps_set (i:=8) scL.nd rfl (Or.inl rfl) (pe_make MMk GMI hr5 rfl mMa bMI .nil passF (pac (pv 3) (pac (pe_ix ix_tup (pv 6) pe_int (fun _ _=>rfl)) (pac (pe_ix ix_list (pv 7) pe_int (fun _ _=>rfl)) (pac (pe_ix ix_list (pv 7) pe_int (fun _ _=>rfl)) (pac (pe_ix ix_list (pv 7) pe_int (fun _ _=>rfl)) pa_nil)))))))
    (pss_cons (ps_for PassesOwn.never rfl (pi_list (pv 7)) (pg_name (i:=9) scL.nd rfl (Or.inl rfl))
     (pss_one (ps_expr (pe_bm0 PySem.F.plainAttrs_list PySem.F.slot_list_clear PySem.F.type_list_clear mt_clear (pv 9)))))
    (pss_cons (ps_if (pw_or (pt_not (pt_val (pe_call GTo hr2 (by rfl) mTo kTo bTo .nil pass0 (pac (pv 8) (pac (pv 6) pa_nil)))))
      (pw_or (pt_not (pt_val (pe_call GDT hr5 (by rfl) mDT kDT bDT .nil pass0 (pac (pv 8) (pac (pv 6) (pac (pv 1) pa_nil))))))
      (pw_or1 (pt_cmpR (op_neOne hu) (pe_meth0 (pv 8) MC.cl mDe GDe hr1 bDe .nil pass0) (pv 3) (nomark _))))).pt (pss_one (ps_ret pe_bl)) pss_nil)
    (pss_cons (ps_set (i:=10) scL.nd rfl (Or.inl rfl) (pe_lst (pac (pe_meth0 (pv 8) MC.cl mRo GRo hr1 bRo .nil pass0) (pac (pe_meth0 (pv 8) MC.cl mEn GEn hr1 bEn .nil pass0) (pac (pe_meth0 (pv 8) MC.cl mKn GKn hr1 bKn .nil pass0)
     (pac (pe_meth (pv 8) MC.cl mAt GAt hr3 bAt .nil passF (pac (pe_ix ix_tup (pv 6) pe_int (fun _ _=>rfl)) pa_nil)) pa_nil))))))
    (pss_cons (ps_for PassesOwn.never rfl (pi_list (pv 10)) (pg_name (i:=9) scL.nd rfl (Or.inl rfl))
     (pss_one (ps_expr (pe_bm PySem.F.plainAttrs_list PySem.F.slot_list_append PySem.F.type_list_append mt_append (pv 9) (pac pe_str pa_nil)))))
    (pss_cons (ps_if (pt_not (pt_val (pe_call GOd hr rfl mOd kOd bOd .nil pass0 (pac (pv 8) (pac (pe_ix ix_tup (pv 6) pe_int (fun _ _=>rfl)) (pac (pv 1) (pac (pe_call GC hr2 rfl mC kC bC .nil pass0 (pac (pv 0) (pac pe_int pa_nil))) pa_nil))))))) (pss_one (ps_ret pe_bl)) pss_nil)
    (pss_cons (ps_if (pw_or (pt_not (pt_val (pe_call GDT hr5 (by rfl) mDT kDT bDT .nil pass0 (pac (pv 8) (pac (pv 6) (pac (pv 1) pa_nil))))))
      (pw_or1 (pt_not (pt_val (pe_call GTo hr2 (by rfl) mTo kTo bTo .nil pass0 (pac (pv 8) (pac (pv 6) pa_nil))))))).pt (pss_one (ps_ret pe_bl)) pss_nil)
    (pss_cons (ps_set (i:=11) scL.nd rfl (Or.inl rfl) (pe_make (dvs:=[.non]) MMk GMI hr5 rfl mMa bMI1 (.cons rfl .nil) passF (pac (pv 3) (pac (pe_ix ix_tup (pv 6) pe_int (fun _ _=>rfl)) (pac (pe_ix ix_tup (pv 6) pe_int (fun _ _=>rfl)) (pac (pe_ix ix_tup (pv 6) pe_int (fun _ _=>rfl)) pa_nil))))))
    (pss_cons (ps_if (pt_not (pt_val (pe_call GTo hr2 (by rfl) mTo kTo bTo .nil pass0 (pac (pv 11) (pac (pe_tup (pac (pe_ix ix_tup (pv 6) pe_int (fun _ _=>rfl)) (pac (pe_ix ix_tup (pv 6) pe_int (fun _ _=>rfl)) (pac (pe_ix ix_tup (pv 6) pe_int (fun _ _=>rfl)) (pac (pe_lst pa_nil) pa_nil))))) pa_nil))))) (pss_one (ps_ret pe_bl)) pss_nil)
    (pss_one (ps_expr (pe_bm PySem.F.plainAttrs_list PySem.F.slot_list_append PySem.F.type_list_append mt_append (pv 5) (pac (pv 8) pa_nil)))))))))))))))
   (pss_one (ps_ret (pe_cmpR (op_eqSs hu0) (pe_comp (N':=ndm) (nown:=1) (js:=[5,4]) rfl
     ⟨rfl,by decide +kernel,by decide +kernel⟩ (blkNames (defScope sLaw) N14 rfl rfl (by decide +kernel))
     ⟨fun _ _ _ _=>pg_name (i:=0) (show List.Nodup ndm by decide +kernel) rfl (Or.inl rfl) (.inr rfl),
      fun _ _ _ _=>pts_one (pt_not (pt_val (pe_call GTo hr2 (by rfl) mTo kTo bTo .nil pass0 (pac (pe_ix (show IxR _ (rIxL K) from ix_list) (pv 1) (pv 0) (fun _ _=>rfl)) (pac (pe_ix (show IxR _ (rIxL K) from ix_list) (pv 2) (pv 0) (fun _ _=>rfl)) pa_nil))))),
      fun _ _ _ _=>pv 0⟩
     (pi_range1 rfl T.range (pac (pe_callB call_len_seq (by rfl) T.len Bo.len (pac (pv 5) pa_nil)) pa_nil))) (pe_lst pa_nil) (nomark _)))))))),?_⟩
  have h12:(ssOf ns).length≤12:=by show (namesBy _ _).length≤12; unfold namesBy; rw [List.length_map,List.length_range]; exact manyOf_le _
  have hS12:∀ z∈ssOf ns,z∈some12:=fun z hz=>namesBy_mem hz
  have hnm:∀ z∈ssOf ns,isNameS z=true:=fun z hz=>some_names z (hS12 z hz)
  have hnd:(ssOf ns).Nodup:=namesBy_nodup _ (manyOf_le _)
  have hF:∀ z∈fsOf ns,z∈ssOf ns:=fun z hz=>freeBy_sub hz
  have hFl:(fsOf ns).length≤12:=Nat.le_trans (freeBy_len _ _) h12
  have sh:Short (ssOf ns):=fun z hz=>Nat.le_trans (name_len (hnm z hz)) (by decide)
  refine ⟨_,rfl,a,ns,0,rfl,hS,RW.cellAt ns 0,rfl,fun t l m H1 s1 ht hl hm=>⟨t,_,rfl,SqT.of ht,rfl,_,_,rfl,_,_,rfl,rfl,?_⟩⟩
  refine ⟨_,rfl,_,rfl,fun x dx hx hdx _=>?_⟩
  have k1:Same H1 (upd (upd H1 dx (.own x)) x (.ins C dx [])):=fun b o e=>by rw [upd_ne (ne_of_none e hx),upd_ne (ne_of_none e hdx)]; exact e
  refine ⟨x,l,.ref m,dx,ssOf ns,fsOf ns,rfl,upd_same,SqL.of (k1 _ _ hl),.inr ⟨m,rfl,SqL.of (k1 _ _ hm)⟩,sh,fun z hz=>sh z (hF z hz),by omega,fun H2 sb=>?_⟩
  rw [deeds_ok h12 hnm hnd hF]
  intro dw df o S e1 e2 e3 pm so
  have s2:Same H1 H2:=fun b u e=>sb b u (ne_of_none e hx) (k1 b u e)
  have W2:WAt C H2 x (wts S 1 []):=⟨dx,_,dw,o,e1,noW2 _ _,by rfl,e2⟩
  have hS2:=(s1.trans s2).seq hS
  have hl2:=s2 _ _ hl
  have hP2:=s2 _ _ (s1 _ _ hP)
  refine ⟨rfl,?_⟩
  clear hx hdx k1 sb e1 e2 e3
  refine ⟨1,4,rfl,⟨by decide,by decide,by decide,by decide⟩,fun D hD=>blk_range (n:=3) (fun i σ' H'=>∃ v,σ'=[v,some (.ref a)]∧H' D=some (.lst (([RW.cellAt ns 1,RW.cellAt ns 2,RW.cellAt ns 3].take i).map V.int))∧Same H2 H') ?_ ?_ ?_⟩
  ·exact ⟨none,rfl,upd_same,smu hD⟩
  ·rintro i σ' H' hi ⟨v,rfl,h1,h2⟩
   refine ⟨_,rfl,_,rfl,a,ns,1+i,by rw [Int.natCast_add]; rfl,h2.seq hS2,_,h1,small1000 (by rw [List.length_map,List.length_take]; omega),_,rfl,?_,fun b o' e=>?_⟩
   ·rw [upd_same]
    match i,hi with
    | 0,_=>rfl
    | 1,_=>rfl
    | 2,_=>rfl
   ·rw [upd_ne (ne_of_none e hD)]
    exact h2 _ _ e
  rintro σ' H3 ⟨v,rfl,h3,s3⟩
  refine ⟨_,rfl,D,l,RW.cellAt ns 1,RW.cellAt ns 2,RW.cellAt ns 3,ssOf ns,rfl,SqL.of h3,SqL.of (s3 _ _ hl2),h12,fun p H4 s4 PA=>?_⟩
  have s24:=s3.trans s4
  have W4:=wSameQ W2 s24
  have hS4:=s24.seq hS2
  have hl4:=s24 _ _ hl2
  have hP4:=s24 _ _ hP2
  clear hD h3 s3 s4 hS2 hl2 hP2 W2 s24 s2
  have hgood:=good_of pm hnm
  have hbad:=bad4 pm hS12
  have WO:=offW hP4 W4
  have SO:=offL hP4 hS4
  have LO:off H4 Pt l=some (.lst ((ssOf ns).map V.str)):=off_of hP4 hl4 (fun _ z=>nomatch z)
  obtain ⟨ts,hp4,htl,htr'⟩:=PA.ex
  have PO:off H4 Pt p=some (.lst (ts.map V.ref)):=off_of hP4 hp4 (fun _ z=>nomatch z)
  have htr:∀ (i:Nat) (t:Addr) (c:Int) (n:Nat),ts[i]?=some t→(plOf ns)[i]?=some (c,n)→RowQ (off H4 Pt) t (roomAt c 0) (endsBy c n) (doorsBy c (ssOf ns) n) (moreBy c (ssOf ns)):=fun i t c n a b=>by
   obtain ⟨e,d,m,h0,h1,h2,h3⟩:=htr' i t (c,n) a b
   exact offR hP4 ⟨e,d,m,h0,h1,h2,h3⟩
  refine ⟨by show 0≤sizeLine; decide,fun mk hmk=>?_⟩
  have hB:off H4 Pt mk=none:=by unfold off; rw [hmk,ite_self]
  have tk0:TK Pt 0 (upd H4 mk (.lst [])):=TK.same (H:=H4) ⟨[],.inl rfl,hP4,fun c hc=>nomatch hc⟩ (smu hmk)
  have sm0:Same (off H4 Pt) (upd H4 mk (.lst [])):=off_same (smu hmk)
  have mk0:(upd H4 mk (.lst [])) mk=some (.lst []):=upd_same
  generalize upd H4 mk (.lst [])=HS at tk0 sm0 mk0 ⊢
  clear htr' hp4 PA W4 hS4 hl4 hmk
  refine ⟨_,rfl,p,rfl,⟨_,SqL.of (sm0 _ _ PO)⟩,?_⟩
  refine for_list (xs:=ts.map V.ref) (fun i σ H'=>∃ (x6 x7 x8 x9 x10 x11:Option V),σ=[some (.ref a),some (.ref l),some (.ref m),some (.ref x),some (.ref p),some (.ref mk),x6,x7,x8,x9,x10,x11]∧Same (off H4 Pt) H'∧TK Pt 0 H'∧∃ Xs:List Addr,H' mk=some (.lst (Xs.map V.ref))∧Xs.length=i ∧
   ∀ (j:Nat) (X:Addr) (c:Int) (n:Nat),Xs[j]?=some X→(plOf ns)[j]?=some (c,n)→MMr CM H' X x c n (ssOf ns)) ?_ ?_ ?_ ?_
  ·exact ⟨none,none,none,none,none,none,rfl,sm0,tk0,[],mk0,rfl,fun j X c n z=>nomatch z⟩
  ·rintro i σ H' _ ⟨x6,x7,x8,x9,x10,x11,rfl,sm,_⟩
   exact SqL.of (sm _ _ PO)
  ·rintro i v σ H' hv ⟨x6,x7,x8,x9,x10,x11,rfl,sm,tk,Xs,hX0,hXl,hXm⟩
   rw [List.getElem?_map] at hv
   cases ht':ts[i]? with
   | none=>rw [ht'] at hv; cases hv
   | some t'=>
    rw [ht'] at hv
    cases hv
    have hi:i<(plOf ns).length:=by rw [← htl]; exact (List.getElem?_eq_some_iff.mp ht').1
    have hz:=List.getElem?_eq_getElem hi
    generalize (plOf ns)[i]=rw0 at hz
    have zl:=zs_le _ _ _ rw0 (List.mem_of_mem_take (List.mem_of_getElem? hz))
    obtain ⟨c,n⟩:=rw0
    dsimp only at zl
    have n5:=zl.2
    have RO:RowOk c n (ssOf ns):=rowOk zl.1 zl.2 h12 hnd
    have RB:=htr i t' c n ht' hz
    obtain ⟨e,d,mm,r0,r1,r2,r3⟩:=RB.same sm
    obtain ⟨us,hd,hul,hut⟩:=r2.ex
    have rsm:=RO.sm
    have l2e:=two_len (endsBy c n)
    have l2m:=two_len (moreBy c (ssOf ns))
    have iX:Xs.length≤5:=by
     have:(plOf ns).length≤3:=by
      show ((rowsP _ _ _).take _).length≤3
      rw [List.length_take]
      exact Nat.min_le_right _ _
     omega
    clear hi
    refine ⟨_,rfl,t',_,_,.ref e,rfl,rfl,SqT.of r0,rfl,e,_,rfl,.inl (SqL.of r1),fun q1 hq1=>⟨_,rfl,t',_,_,.ref e,rfl,rfl,SqT.of (smu hq1 _ _ r0),rfl,_,rfl,e,_,rfl,SqL.of (smu hq1 _ _ r1),fun q2 hq2=>⟨q1,q2,_,_,rfl,rfl,smu hq2 _ _ upd_same,upd_same,?_,fun q3 hq3=>?_⟩⟩⟩
    ·rw [cut1,List.length_map,List.length_map,List.length_take]
     exact small2 (by omega)
    generalize hH3:upd (upd (upd H' q1 _) q2 _) q3 _=Ha
    have sa:Same H' Ha:=by rw [← hH3]; exact (smu hq1).trans ((smu hq2).trans (smu hq3))
    have ea:Ha q3=some (.lst ((two (endsBy c n)).map V.str)):=by rw [← hH3,upd_same,cut1,← List.map_append]
    have f3:H' q3=none:=((smu hq1).trans (smu hq2)).free hq3
    clear hH3 hq1 hq2 hq3
    refine ⟨_,rfl,t',_,_,.ref d,rfl,rfl,SqT.of (sa _ _ r0),rfl,d,_,rfl,.inl (SqL.of (sa _ _ hd)),fun q4 hq4=>?_⟩
    have f4:H' q4=none:=sa.free hq4
    have sab:Same Ha (upd Ha q4 (.lst (us.map V.ref))):=smu hq4
    have eb:(upd Ha q4 (.lst (us.map V.ref))) q4=some (.lst (us.map V.ref)):=upd_same
    generalize upd Ha q4 (.lst (us.map V.ref))=Hb at sab eb ⊢
    have sb:=sa.trans sab
    have eab:=sab _ _ ea
    clear sab hq4
    refine ⟨_,rfl,t',_,_,.ref mm,rfl,rfl,SqT.of (sb _ _ r0),rfl,mm,_,rfl,.inl (SqL.of (sb _ _ r3)),fun q5 hq5=>⟨_,rfl,t',_,_,.ref mm,rfl,rfl,SqT.of (smu hq5 _ _ (sb _ _ r0)),rfl,_,rfl,mm,_,rfl,SqL.of (smu hq5 _ _ (sb _ _ r3)),fun q6 hq6=>⟨q5,q6,_,_,rfl,rfl,smu hq6 _ _ upd_same,upd_same,?_,fun q7 hq7=>?_⟩⟩⟩
    ·rw [cut1,List.length_map,List.length_map,List.length_take]
     exact small2 (by omega)
    generalize hH7:upd (upd (upd Hb q5 _) q6 _) q7 _=Hc
    have sbc:Same Hb Hc:=by rw [← hH7]; exact (smu hq5).trans ((smu hq6).trans (smu hq7))
    have ec:Hc q7=some (.lst ((two (moreBy c (ssOf ns))).map V.str)):=by rw [← hH7,upd_same,cut1,← List.map_append]
    have f7:H' q7=none:=(sb.trans ((smu hq5).trans (smu hq6))).free hq7
    clear hH7 hq5 hq6 hq7
    have sc:=sb.trans sbc
    have eac:=sbc _ _ eab
    have ebc:=sbc _ _ eb
    have Lc:∀ l∈[q3,q4,q7],∃ xs,Hc l=some (.lst xs):=all3 ⟨_,eac⟩ ⟨_,ebc⟩ ⟨_,ec⟩
    refine ⟨by show 3≤sizeLine; decide,fun hh hhh=>?_⟩
    have nh:=notIn Lc hhh
    have scd:Same Hc (upd Hc hh (.lst [.ref q3,.ref q4,.ref q7])):=smu hhh
    have eh:(upd Hc hh (.lst [.ref q3,.ref q4,.ref q7])) hh=some (.lst [.ref q3,.ref q4,.ref q7]):=upd_same
    generalize upd Hc hh (.lst [.ref q3,.ref q4,.ref q7])=Hd at scd eh ⊢
    have sd:=sc.trans scd
    have e3:=scd _ _ eac
    have e4:=scd _ _ ebc
    have e7:=scd _ _ ec
    clear hhh Lc sc sb sa sbc scd eab eac ebc ea eb ec
    refine ⟨_,rfl,_,rfl,t',_,_,.str (roomAt c 0),rfl,rfl,SqT.of (sd _ _ r0),rfl,_,rfl,hh,_,_,.ref q3,rfl,rfl,SqL.of eh,rfl,_,rfl,hh,_,_,.ref q4,rfl,rfl,SqL.of eh,rfl,_,rfl,hh,_,_,.ref q7,rfl,rfl,SqL.of eh,rfl,fun X dX hX hdX _=>?_⟩
    have k1:Same Hd (upd (upd Hd dX (.own X)) X (.ins CM dX [])):=fun b o' e'=>by rw [upd_ne (ne_of_none e' hX),upd_ne (ne_of_none e' hdX)]; exact e'
    have r60:(mks (roomsOf (roomAt c 0) (two (endsBy c n)) (doorsBy c (ssOf ns) n)) []).length≤60:=by
     rw [mks_len,(unl_same rooms_two).length_eq]
     exact Nat.le_trans (RO.ul n5) (by decide)
    refine ⟨X,x,q3,q4,dX,roomAt c 0,.ref q7,two (endsBy c n),two (moreBy c (ssOf ns)),doorsBy c (ssOf ns) n,wts S 1 [],rfl,upd_same,wSameQ WO (sm.trans (sd.trans k1)),k1 _ _ e3,⟨us,k1 _ _ e4,hul,fun i t x a b=>k1 _ _ (sd _ _ (hut i t x a b))⟩,.inr ⟨q7,rfl,k1 _ _ e7⟩,⟨by omega,by omega,by omega⟩,
     List.all_eq_true.mpr (fun z hz=>List.all_eq_true.mp RO.nm z ((rooms_two z).mp hz)),allG hgood (fun z hz=>RO.kn z ((known_two z).mp hz)),fun z hz=>sh z (RO.kn z ((known_two z).mp hz)),RO.ap,r60,fun lM eM kM' kvs g H5 sbx M5=>⟨rfl,?_⟩⟩
    have s5:Same Hd H5:=fun b u e'=>sbx b u (ne_of_none e' hX) (k1 b u e')
    have M5':MMr CM H5 X x c n (ssOf ns):=⟨dX,lM,eM,kM',kvs,g,M5⟩
    have e35:=s5 _ _ e3
    have e45:=s5 _ _ e4
    have e75:=s5 _ _ e7
    have eh5:=s5 _ _ eh
    have sd5:=sd.trans s5
    clear hX hdX k1 sbx M5 e3 e4 e7 eh sd s5
    refine ⟨_,rfl,hh,rfl,⟨_,SqL.of eh5⟩,?_⟩
    refine for_list (xs:=[q3,q4,q7].map V.ref) (fun i σ H=>∃ (y9:Option V),σ=[some (.ref a),some (.ref l),some (.ref m),some (.ref x),some (.ref p),some (.ref mk),some (.ref t'),some (.ref hh),some (.ref X),y9,x10,x11]∧LL H5 [q3,q4,q7] i H) ?_ ?_ ?_ ?_
    ·exact ⟨_,rfl,⟨fun _ _ z _=>z,all3 ⟨_,e35,by rw [List.length_map]; omega⟩ ⟨_,e45,by rw [List.length_map]; omega⟩ ⟨_,e75,by rw [List.length_map]; omega⟩⟩⟩
    ·rintro i σ H _ ⟨y9,rfl,L⟩
     exact SqL.of (L.keep _ _ eh5 nh)
    ·rintro i v σ H hv ⟨y9,rfl,L⟩
     obtain ⟨l',hl',rfl⟩:=List.mem_map.mp (List.mem_of_getElem? hv)
     obtain ⟨xs,hx,hxl⟩:=L.list l' hl'
     exact ⟨_,rfl,.inl ⟨rfl,_,SqL.of hx⟩,l',xs,rfl,rfl,hx,_,rfl,L.put hl' (Nat.zero_le _)⟩
    rintro σ H6 ⟨y9,rfl,L6⟩
    have s6:Same H' H6:=L6.same sd5 (all3 f3 f4 f7)
    have M6:MMr CM H6 X x c n (ssOf ns):=mm_nl M5' (L6.nls (all3 ⟨_,e35⟩ ⟨_,e45⟩ ⟨_,e75⟩))
    clear L6 e35 e45 e75 eh5 sd5 nh f3 f4 f7 M5'
    have sm6:Same (off H4 Pt) H6:=sm.trans s6
    have tk6:=tk.same s6
    have MR6:MRow C CM H6 X t' x (roomAt c 0) (two (endsBy c n)) (endsBy c n) (knownOf (doorsBy c (ssOf ns) n) (two (moreBy c (ssOf ns)))) (moreBy c (ssOf ns)) (doorsBy c (ssOf ns) n) (ssOf ns) (wts S 1 []):=
     mrow2 RO n5 h12 hgood M6 (RB.same sm6) (wSameQ WO sm6) mem_two known_two (fun z hz=>hz) RO.le.2.2
    have r06:=s6 _ _ r0
    refine ⟨_,rfl,_,rfl,X,t',x,_,_,_,_,_,_,_,_,rfl,MR6,fun H7 s7=>⟨_,rfl,iteF ?_⟩⟩
    refine ⟨_,rfl,_,rfl,_,rfl,X,t',l,x,_,_,_,_,_,_,_,_,rfl,MR6.same s7,SqL.of ((sm6.trans s7) _ _ LO),fun H8 s8=>⟨_,rfl,iteF ?_⟩⟩
    have s68:=s7.trans s8
    have M8':MMr CM H8 X x c n (ssOf ns):=M6.same s68
    obtain ⟨dX8,lM8,eM8,kM8,kv8,g8,M8⟩:=M8'
    have M8':MMr CM H8 X x c n (ssOf ns):=⟨dX8,lM8,eM8,kM8,kv8,g8,M8⟩
    obtain ⟨wx,wf,ww,wo,hw0,hw1,hw2,hw3⟩:=wSameQ WO (sm6.trans s68)
    refine ⟨_,rfl,X,dX8,_,rfl,M8.ins,mFlds_mth _ _ _ _ _ _ (by decide),X,x,_,_,_,_,rfl,M8',_,rfl,x,C,wx,wf,rfl,rfl,hw0,NC,_,rfl,iteF ?_⟩
    clear hw0 hw1 hw2 hw3
    have h64R:(unl (roomsOf (roomAt c 0) (two (endsBy c n)) (doorsBy c (ssOf ns) n)) []).length<64:=by rw [(unl_same MR6.rooms).length_eq]; exact MR6.ul
    have r08:=s68 _ _ r06
    have b64:(roomAt c 0).length≤1000:=Nat.le_trans (name_len (roomAt_name c 0)) (by decide)
    have gb:goodR (roomAt c 0) (two (endsBy c n)) (doorsBy c (ssOf ns) n) (roomAt c 0):=MR6.good (List.mem_append_left _ (List.mem_cons_self ..))
    refine ⟨_,rfl,X,dX8,_,rfl,M8.ins,mFlds_mth _ _ _ _ _ _ (by decide),X,x,_,_,_,_,rfl,M8',h64R,fun l1 t1 H9 s9 n1 g1 _ pm1=>?_⟩
    refine ⟨_,rfl,X,dX8,_,rfl,s9 _ _ M8.ins,mFlds_mth _ _ _ _ _ _ (by decide),X,x,_,_,_,_,rfl,M8'.same s9,MR6.es64,fun l2 t2 H10 s10 n2 g2 _ pm2=>?_⟩
    have s810:=s9.trans s10
    refine ⟨_,rfl,X,dX8,_,rfl,s810 _ _ M8.ins,mFlds_mth _ _ _ _ _ _ (by decide),X,x,_,_,_,_,rfl,M8'.same s810,MR6.kn64,fun l3 t3 H11 s11 n3 g3 _ pm3=>?_⟩
    have s811:=s810.trans s11
    refine ⟨_,rfl,X,dX8,_,rfl,s811 _ _ M8.ins,mFlds_mth _ _ _ _ _ _ (by decide),_,rfl,t',_,_,.str (roomAt c 0),rfl,rfl,SqT.of (s811 _ _ r08),rfl,X,x,_,roomAt c 0,_,_,_,ssOf ns,rfl,M8'.same s811,b64,RO.ap,RO.dd,MR6.s64,fun _ l4 t4 H12 s12 n4 g4 _ pm4=>?_,fun bad=>absurd gb bad⟩
    refine ⟨by show 4≤sizeLine; decide,fun hl hhl=>?_⟩
    have g112:=s12 _ _ (s11 _ _ (s10 _ _ g1))
    have g212:=s12 _ _ (s11 _ _ g2)
    have g312:=s12 _ _ g3
    have c1:t1.length<64:=by rw [pm1.length_eq]; exact h64R
    have c2:t2.length<64:=by rw [pm2.length_eq]; exact MR6.es64
    have c3:t3.length<64:=by rw [pm3.length_eq]; exact MR6.kn64
    have c4:t4.length≤60:=by
     rw [pm4.length_eq]
     unfold deedsAt
     exact Nat.le_trans (List.length_filterMap_le ..) rsm.2.1
    have L12:∀ l∈[l1,l2,l3,l4],∃ xs,H12 l=some (.lst xs):=all4 ⟨_,g112⟩ ⟨_,g212⟩ ⟨_,g312⟩ ⟨_,g4⟩
    have nl:=notIn L12 hhl
    have f12:∀ l∈[l1,l2,l3,l4],H8 l=none:=all4 n1 (s9.free n2) (s810.free n3) (s811.free n4)
    have s13:Same H12 (upd H12 hl (.lst [.ref l1,.ref l2,.ref l3,.ref l4])):=smu hhl
    have eh:(upd H12 hl (.lst [.ref l1,.ref l2,.ref l3,.ref l4])) hl=some (.lst [.ref l1,.ref l2,.ref l3,.ref l4]):=upd_same
    generalize upd H12 hl (.lst [.ref l1,.ref l2,.ref l3,.ref l4])=H13 at s13 eh ⊢
    have s813:=s811.trans (s12.trans s13)
    refine ⟨_,rfl,hl,rfl,⟨_,SqL.of eh⟩,?_⟩
    refine for_list (xs:=[l1,l2,l3,l4].map V.ref) (fun i σ H=>∃ (y:Option V),σ=[some (.ref a),some (.ref l),some (.ref m),some (.ref x),some (.ref p),some (.ref mk),some (.ref t'),some (.ref hh),some (.ref X),y,some (.ref hl),x11]∧LL H13 [l1,l2,l3,l4] i H) ?_ ?_ ?_ ?_
    ·exact ⟨_,rfl,⟨fun _ _ z _=>z,all4 ⟨_,s13 _ _ g112,by rw [List.length_map]; omega⟩ ⟨_,s13 _ _ g212,by rw [List.length_map]; omega⟩ ⟨_,s13 _ _ g312,by rw [List.length_map]; omega⟩ ⟨_,s13 _ _ g4,by rw [List.length_map]; omega⟩⟩⟩
    ·rintro i σ H _ ⟨y,rfl,L⟩
     exact SqL.of (L.keep _ _ eh nl)
    ·rintro i v σ H hv ⟨y,rfl,L⟩
     have hi4:i<4:=(List.getElem?_eq_some_iff.mp hv).1
     obtain ⟨l',hl',rfl⟩:=List.mem_map.mp (List.mem_of_getElem? hv)
     obtain ⟨xs,hx,hxl⟩:=L.list l' hl'
     exact ⟨_,rfl,.inl ⟨rfl,_,SqL.of hx⟩,l',xs,_,rfl,rfl,hx,small1000 (by omega),_,rfl,L.put hl' (by rw [List.length_append]; show _+1≤_; omega)⟩
    rintro σ H14 ⟨y,rfl,L14⟩
    have s14:Same H8 H14:=L14.same s813 f12
    have s614:=s68.trans s14
    clear L14 f12 nl L12 c1 c2 c3 c4 g112 g212 g312 g1 g2 g3 g4 n1 n2 n3 n4 s13 eh hhl s9 s10 s11 s12 s810 s811 s813 M8 M8' pm1 pm2 pm3 pm4
    have tk14:=tk6.same s614
    have MR14:=MR6.same s614
    have sm14:=sm6.trans s614
    obtain ⟨ps,hPx⟩:=tk14.tb
    refine ⟨_,rfl,_,rfl,t',_,_,.str (roomAt c 0),rfl,rfl,SqT.of (s614 _ _ r06),rfl,_,rfl,_,rfl,a,ns,4,rfl,sm14.seq SO,X,t',l,x,_,roomAt c 0,RW.cellAt ns 4,_,_,_,_,_,_,_,rfl,MR14,List.mem_append_left _ (List.mem_cons_self ..),RO.odd mem_two,hbad,tk14,fun H15 s15 tk15=>⟨_,rfl,iteF ?_⟩⟩
    have sm15:Same (off H4 Pt) H15:=(off_off sm14).trans s15
    have MR15:=(offMR hPx MR14).same s15
    have mk15:H15 mk=some (.lst (Xs.map V.ref)):=s15 _ _ (off_of hPx (s614 _ _ (s6 _ _ hX0)) (fun _ z=>nomatch z))
    have old15:∀ (j:Nat) (X:Addr) (c:Int) (n:Nat),Xs[j]?=some X→(plOf ns)[j]?=some (c,n)→MMr CM H15 X x c n (ssOf ns):=fun j X c n z1 z2=>(offM hPx ((hXm j X c n z1 z2).same (s6.trans s614))).same s15
    clear hXm hX0 sm14 s614 s14 s68 s7 s8 tk6 tk14 MR14 MR6 M6 r06 r08 sm6 s6 sm tk r0 r1 r2 r3 hd hut hPx
    obtain ⟨e,d,mm,r0,r1,r2,r3⟩:=RB.same sm15
    refine ⟨_,rfl,_,rfl,_,rfl,X,t',l,x,_,_,_,_,_,_,_,_,rfl,MR15,SqL.of (sm15 _ _ LO),fun H16 s16=>⟨_,rfl,iteF ⟨_,rfl,_,rfl,X,t',x,_,_,_,_,_,_,_,_,rfl,MR15.same s16,fun H17 s17=>⟨_,rfl,iteF ?_⟩⟩⟩⟩
    have s1:=s16.trans s17
    refine ⟨_,rfl,_,rfl,t',_,_,.str (roomAt c 0),rfl,rfl,SqT.of (s1 _ _ r0),rfl,_,rfl,t',_,_,.ref e,rfl,rfl,SqT.of (s1 _ _ r0),rfl,_,rfl,t',_,_,.ref d,rfl,rfl,SqT.of (s1 _ _ r0),rfl,fun Y dY hY hdY _=>?_⟩
    have k2:Same H17 (upd (upd H17 dY (.own Y)) Y (.ins CM dY [])):=fun b o' e'=>by rw [upd_ne (ne_of_none e' hY),upd_ne (ne_of_none e' hdY)]; exact e'
    have sk:=s1.trans k2
    have r60':(mks (roomsOf (roomAt c 0) (endsBy c n) (doorsBy c (ssOf ns) n)) []).length≤60:=by
     rw [mks_len]
     exact Nat.le_trans (RO.ul n5) (by decide)
    have kn0:∀ z∈knownOf (doorsBy c (ssOf ns) n) [],z∈ssOf ns:=fun z hz=>RO.kn z (List.mem_append_left _ ((List.mem_append.mp hz).resolve_right fun q=>nomatch q))
    refine ⟨Y,x,e,d,dY,roomAt c 0,.non,endsBy c n,[],doorsBy c (ssOf ns) n,wts S 1 [],rfl,upd_same,wSameQ WO (sm15.trans sk),sk _ _ r1,r2.same sk,.inl ⟨rfl,rfl⟩,⟨by omega,by omega,by decide⟩,RO.nm,allG hgood kn0,fun z hz=>sh z (kn0 z hz),RO.ap,r60',fun lM eM kM' kvs g H18 sbx M18=>⟨rfl,?_⟩⟩
    have s18:Same H15 H18:=s1.trans fun b u e'=>sbx b u (ne_of_none e' hY) (k2 b u e')
    have MY:MM CM H18 Y x (roomAt c 0) (endsBy c n) (knownOf (doorsBy c (ssOf ns) n) []) (doorsBy c (ssOf ns) n):=⟨dY,lM,eM,kM',kvs,g,M18⟩
    clear hY hdY k2 sk sbx M18 s1 s16 s17
    refine ⟨_,rfl,_,rfl,t',_,_,.str (roomAt c 0),rfl,rfl,SqT.of (s18 _ _ r0),rfl,_,rfl,t',_,_,.ref e,rfl,rfl,SqT.of (s18 _ _ r0),rfl,_,rfl,t',_,_,.ref d,rfl,rfl,SqT.of (s18 _ _ r0),rfl,by show 0≤sizeLine; decide,fun q9 hq9=>⟨by show 4≤sizeLine; decide,fun tt htt=>?_⟩⟩
    have s20':Same H18 (upd (upd H18 q9 (.lst [])) tt (.tup [.str (roomAt c 0),.ref e,.ref d,.ref q9])):=(smu hq9).trans (smu htt)
    have e20:(upd (upd H18 q9 (.lst [])) tt (.tup [.str (roomAt c 0),.ref e,.ref d,.ref q9])) tt=some (.tup [.str (roomAt c 0),.ref e,.ref d,.ref q9]):=upd_same
    have e21:(upd (upd H18 q9 (.lst [])) tt (.tup [.str (roomAt c 0),.ref e,.ref d,.ref q9])) q9=some (.lst []):=smu htt _ _ upd_same
    generalize upd (upd H18 q9 (.lst [])) tt (.tup [.str (roomAt c 0),.ref e,.ref d,.ref q9])=H20 at s20' e20 e21 ⊢
    have s20:=s18.trans s20'
    have MR20:MRow C CM H20 Y tt x (roomAt c 0) (endsBy c n) (endsBy c n) (knownOf (doorsBy c (ssOf ns) n) []) [] (doorsBy c (ssOf ns) n) (ssOf ns) (wts S 1 []):=
     mrow2 RO n5 h12 hgood (MY.same s20') ⟨e,d,q9,e20,s20 _ _ r1,r2.same s20,e21⟩ (wSameQ WO (sm15.trans s20)) (fun z=>Iff.rfl) (fun z=>Iff.rfl) (fun z hz=>nomatch hz) (by decide)
    refine ⟨Y,tt,x,_,_,_,_,_,_,_,_,rfl,MR20,fun H21 s21=>⟨_,rfl,iteF ?_⟩⟩
    have s1521:=s20.trans s21
    have mk21:=s1521 _ _ mk15
    have tk21:=tk15.same s1521
    have sm21:=sm15.trans s1521
    refine ⟨_,rfl,.inl ⟨rfl,_,SqL.of mk21⟩,_,rfl,mk,_,_,rfl,rfl,mk21,small1000 (by rw [List.length_map]; omega),?_⟩
    refine ⟨_,_,_,_,_,_,rfl,fun b o' z=>?_,tk21.put mk21,Xs++[X],?_,by rw [List.length_append,hXl]; rfl,fun j X' c' n' z1 z2=>mm_nl ?_ (nls_put mk21)⟩
    ·rw [upd_ne fun z'=>by rw [z',hB] at z; cases z]
     exact sm21 b o' z
    ·rw [upd_same,List.map_append]
     rfl
    ·by_cases hj:j<Xs.length
     ·rw [List.getElem?_append_left hj] at z1
      exact (old15 j X' c' n' z1 z2).same s1521
     ·have ej:j=i:=by
       have:=(List.getElem?_eq_some_iff.mp z1).1
       rw [List.length_append,hXl] at this
       have h1:([X]:List Addr).length=1:=rfl
       omega
      subst ej
      rw [← hXl,List.getElem?_append_right (Nat.le_refl _),Nat.sub_self] at z1
      cases z1
      rw [hz] at z2
      cases z2
      exact MR15.mm.same s1521
  ·rintro σ H' ⟨x6,x7,x8,x9,x10,x11,rfl,sm,tk,Xs,hX0,hXl,hXm⟩
   rw [List.length_map,htl] at hXl
   have hXp:Xs.length=(plOf ns).length:=hXl
   have hpl:(plOf ns).length≤3:=by
    show ((rowsP _ _ _).take _).length≤3
    rw [List.length_take]
    exact Nat.min_le_right _ _
   have htl':ts.length=(plOf ns).length:=htl
   refine ⟨_,rfl,mk,_,rfl,.inl (SqL.of hX0),_,rfl,by rw [List.length_map]; omega,by rw [List.length_map]; omega,fun D hD=>blk_range (n:=((Xs.map V.ref).length:Int).toNat) (fun i σ' H''=>∃ v,σ'=[v,some (.ref mk),some (.ref p)]∧H'' D=some (.lst [])∧Same H' H'') ?_ ?_ ?_⟩
   ·exact ⟨none,rfl,upd_same,smu hD⟩
   ·rintro i σ' H'' hi ⟨v,rfl,h1,h2⟩
    have hiX:i<Xs.length:=by rw [List.length_map] at hi; omega
    have hz:=List.getElem?_eq_getElem (l:=plOf ns) (i:=i) (by omega)
    generalize (plOf ns)[i]'(by omega)=rw0 at hz
    have zl:=zs_le _ _ _ rw0 (List.mem_of_mem_take (List.mem_of_getElem? hz))
    obtain ⟨c,n⟩:=rw0
    dsimp only at zl
    have RO:RowOk c n (ssOf ns):=rowOk zl.1 zl.2 h12 hnd
    have hXi:=List.getElem?_eq_getElem hiX
    generalize Xs[i]=X at hXi
    have hti:=List.getElem?_eq_getElem (l:=ts) (i:=i) (by omega)
    generalize ts[i]'(by omega)=t' at hti
    have sm':=sm.trans h2
    have MR:MRow C CM H'' X t' x (roomAt c 0) (two (endsBy c n)) (endsBy c n) (knownOf (doorsBy c (ssOf ns) n) (two (moreBy c (ssOf ns)))) (moreBy c (ssOf ns)) (doorsBy c (ssOf ns) n) (ssOf ns) (wts S 1 []):=
     mrow2 RO zl.2 h12 hgood ((hXm i X c n hXi hz).same h2) ((htr i t' c n hti hz).same sm') (wSameQ WO sm') mem_two known_two (fun z hz=>hz) RO.le.2.2
    exact ⟨_,rfl,_,rfl,mk,_,_,.ref X,rfl,rfl,SqL.of (h2 _ _ hX0),by rw [Int.zero_add]; exact atI_nat (by rw [List.getElem?_map,hXi]; rfl),_,rfl,_,rfl,p,_,_,.ref t',rfl,rfl,SqL.of (sm' _ _ PO),by rw [Int.zero_add]; exact atI_nat (by rw [List.getElem?_map,hti]; rfl),X,t',x,_,_,_,_,_,_,_,_,rfl,MR,fun H3 s3=>⟨_,rfl,iteF ⟨_,rfl,s3 _ _ h1,h2.trans s3⟩⟩⟩
   ·rintro σ' H6 ⟨v,rfl,h6,s6⟩
    exact ⟨by show 0≤sizeLine; decide,fun q hq=>⟨D,q,[],[],rfl,rfl,SqL.of (smu hq _ _ h6),SqL.of upd_same,k _⟩⟩
end
end K14
namespace K14
open PySem L2 Ky
theorem len4 {α:Type} {p:List α→Prop} (h:∀ a b c d,p [a,b,c,d]):∀ us:List α,us.length=4→p us
 | [a,b,c,d],_=>h a b c d
theorem len6 {α:Type} {p:List α→Prop} (h:∀ a b c d e f,p [a,b,c,d,e,f]):∀ us:List α,us.length=6→p us
 | [a,b,c,d,e,f],_=>h a b c d e f
theorem len5 {α:Type} {p:List α→Prop} (h:∀ a b c d e,p [a,b,c,d,e]):∀ us:List α,us.length=5→p us
 | [a,b,c,d,e],_=>h a b c d e
noncomputable def kitB (K:PySem.W.Frag) (ds:List Addr):Bool:=thrown.all fun i=>(List.range 14).all fun j=>PySem.W.kitOne K (.ref (ds.getD i 0)) (.ref (ds.getD j 0))==some (decide (i=j))
noncomputable def veB (K:PySem.W.Frag) (ds:List Addr):Bool:=thrown.all fun i=>PySem.W.kitOne K (.ref (ds.getD i 0)) (.type "ValueError")==some true
noncomputable def exB (K:PySem.W.Frag) (ds:List Addr) (W:Addr):Bool:=thrown.all fun i=>PySem.W.exmOne K (.ref (ds.getD i 0)) (.ref W)==some true
theorem all_mk {l:PySem.W.OpenLaw} {w:World} {K:PySem.W.Frag} {h:Heap} {mg:Str→Option Value} {fa f1 f2 f3 f4 f5 f6 f7 f8 f9 f10 f11 f12 f13 f14 f15 f16 f17 f18 f19 f20 f21 fm0 fm1 fM0 fM1 fM2 fM3 fM4 fM5 fM6 fM7 fM8 fMI fI C CM W c0 Pt Td Te d0 d1 d2 d3 d4 d5 d6 d7 d8 d9 d10 d11 d12 d13:Addr} (X:K.In h) (G:h.Ns mainGlobals mg) (hfa:mg "law"=some (.ref fa))
  {oc1 kV1 dc1 pm1 ct1 cd1:Value} {od1 an1:Option Addr} {sl1:Array (Option Value)} {oc2 kV2 dc2 pm2 ct2 cd2:Value} {od2 an2:Option Addr} {sl2:Array (Option Value)} {oc3 kV3 dc3 pm3 ct3 cd3:Value} {od3 an3:Option Addr} {sl3:Array (Option Value)} {oc4 kV4 dc4 pm4 ct4 cd4:Value} {od4 an4:Option Addr} {sl4:Array (Option Value)} {oc5 kV5 dc5 pm5 ct5 cd5:Value} {od5 an5:Option Addr} {sl5:Array (Option Value)} {oc6 kV6 dc6 pm6 ct6 cd6:Value} {od6 an6:Option Addr} {sl6:Array (Option Value)} {oc7 kV7 dc7 pm7 ct7 cd7:Value} {od7 an7:Option Addr} {sl7:Array (Option Value)} {oc8 kV8 dc8 pm8 ct8 cd8:Value} {od8 an8:Option Addr} {sl8:Array (Option Value)} {oc9 kV9 dc9 pm9 ct9 cd9:Value} {od9 an9:Option Addr} {sl9:Array (Option Value)} {oc10 kV10 dc10 pm10 ct10 cd10:Value} {od10 an10:Option Addr} {sl10:Array (Option Value)} {oc11 kV11 dc11 pm11 ct11 cd11:Value} {od11 an11:Option Addr} {sl11:Array (Option Value)} {oc12 kV12 dc12 pm12 ct12 cd12:Value} {od12 an12:Option Addr} {sl12:Array (Option Value)} {oc13 kV13 dc13 pm13 ct13 cd13:Value} {od13 an13:Option Addr} {sl13:Array (Option Value)} {oc14 kV14 dc14 pm14 ct14 cd14:Value} {od14 an14:Option Addr} {sl14:Array (Option Value)} {oc15 kV15 dc15 pm15 ct15 cd15:Value} {od15 an15:Option Addr} {sl15:Array (Option Value)} {oc16 kV16 dc16 pm16 ct16 cd16:Value} {od16 an16:Option Addr} {sl16:Array (Option Value)} {oc17 kV17 dc17 pm17 ct17 cd17:Value} {od17 an17:Option Addr} {sl17:Array (Option Value)} {oc18 kV18 dc18 pm18 ct18 cd18:Value} {od18 an18:Option Addr} {sl18:Array (Option Value)} {oc19 kV19 dc19 pm19 ct19 cd19:Value} {od19 an19:Option Addr} {sl19:Array (Option Value)} {oc20 kV20 dc20 pm20 ct20:Value} {od20 an20:Option Addr} {sl20:Array (Option Value)} {oc21 kV21 dc21 pm21 ct21 cd21:Value} {od21 an21:Option Addr} {sl21:Array (Option Value)} {ocm0 kVm0 dcm0 pmm0 ctm0 cdm0:Value} {odm0 anm0:Option Addr} {slm0:Array (Option Value)} {ocm1 kVm1 dcm1 pmm1 ctm1 cdm1:Value} {odm1 anm1:Option Addr} {slm1:Array (Option Value)} {ocM0 kVM0 dcM0 pmM0 ctM0 cdM0:Value} {odM0 anM0:Option Addr} {slM0:Array (Option Value)} {ocM1 kVM1 dcM1 pmM1 ctM1 cdM1:Value} {odM1 anM1:Option Addr} {slM1:Array (Option Value)} {ocM2 kVM2 dcM2 pmM2 ctM2 cdM2:Value} {odM2 anM2:Option Addr} {slM2:Array (Option Value)} {ocM3 kVM3 dcM3 pmM3 ctM3 cdM3:Value} {odM3 anM3:Option Addr} {slM3:Array (Option Value)} {ocM4 kVM4 dcM4 pmM4 ctM4 cdM4:Value} {odM4 anM4:Option Addr} {slM4:Array (Option Value)} {ocM5 kVM5 dcM5 pmM5 ctM5 cdM5:Value} {odM5 anM5:Option Addr} {slM5:Array (Option Value)} {ocM6 kVM6 dcM6 pmM6 ctM6 cdM6:Value} {odM6 anM6:Option Addr} {slM6:Array (Option Value)} {ocM7 kVM7 dcM7 pmM7 ctM7 cdM7:Value} {odM7 anM7:Option Addr} {slM7:Array (Option Value)} {ocM8 kVM8 dcM8 pmM8 ctM8 cdM8:Value} {odM8 anM8:Option Addr} {slM8:Array (Option Value)} {ocMI kVMI dcMI pmMI ctMI cdMI:Value} {odMI anMI:Option Addr} {slMI:Array (Option Value)} {ocE:Value} {odE:Option Addr} {slE:Array (Option Value)} {nE:Nat} {ocI kVI dcI pmI ctI cdI:Value} {odI anI:Option Addr} {slI:Array (Option Value)} {ocT:Value} {odT:Option Addr} {slT:Array (Option Value)} {nT:Nat} {t0 t1 t2 t3 t4:Tok}
  (a1:PySem.W.nsIn K mainGlobals "_law_mixed"=some (some (.ref f1)))
  (l1:K.lookup f1=some ⟨oc1,od1,.func (PySem.W.fnOf "_law_mixed" "_law_mixed" (defArgs sMixed) (defBody sMixed) (defScope sMixed) .none kV1 dc1 pm1 an1 cd1 ct1),sl1⟩)
  (c1:PySem.W.codeIn K cd1 "_law_mixed"=true)
  (k1:PySem.W.keepIn K (.ref f1)=true)
  (a2:PySem.W.nsIn K mainGlobals "_law_cell_at"=some (some (.ref f2)))
  (l2:K.lookup f2=some ⟨oc2,od2,.func (PySem.W.fnOf "_law_cell_at" "_law_cell_at" (defArgs sCell) (defBody sCell) (defScope sCell) .none kV2 dc2 pm2 an2 cd2 ct2),sl2⟩)
  (c2:PySem.W.codeIn K cd2 "_law_cell_at"=true)
  (k2:PySem.W.keepIn K (.ref f2)=true)
  (a3:PySem.W.nsIn K mainGlobals "is_name"=some (some (.ref f3)))
  (l3:K.lookup f3=some ⟨oc3,od3,.func (PySem.W.fnOf "is_name" "is_name" (defArgs sName) (defBody sName) (defScope sName) .none kV3 dc3 pm3 an3 cd3 ct3),sl3⟩)
  (c3:PySem.W.codeIn K cd3 "is_name"=true)
  (k3:PySem.W.keepIn K (.ref f3)=true)
  (a4:PySem.W.nsIn K mainGlobals "refuse_names"=some (some (.ref f4)))
  (l4:K.lookup f4=some ⟨oc4,od4,.func (PySem.W.fnOf "refuse_names" "refuse_names" (defArgs sRefuse) (defBody sRefuse) (defScope sRefuse) .none kV4 dc4 pm4 an4 cd4 ct4),sl4⟩)
  (c4:PySem.W.codeIn K cd4 "refuse_names"=true)
  (k4:PySem.W.keepIn K (.ref f4)=true)
  (a5:PySem.W.nsIn K mainGlobals "weights_of"=some (some (.ref f5)))
  (l5:K.lookup f5=some ⟨oc5,od5,.func (PySem.W.fnOf "weights_of" "weights_of" (defArgs sWeights) (defBody sWeights) (defScope sWeights) .none kV5 dc5 pm5 an5 cd5 ct5),sl5⟩)
  (c5:PySem.W.codeIn K cd5 "weights_of"=true)
  (k5:PySem.W.keepIn K (.ref f5)=true)
  (a6:PySem.W.nsIn K mainGlobals "marks_of"=some (some (.ref f6)))
  (l6:K.lookup f6=some ⟨oc6,od6,.func (PySem.W.fnOf "marks_of" "marks_of" (defArgs sMarks) (defBody sMarks) (defScope sMarks) .none kV6 dc6 pm6 an6 cd6 ct6),sl6⟩)
  (c6:PySem.W.codeIn K cd6 "marks_of"=true)
  (k6:PySem.W.keepIn K (.ref f6)=true)
  (a7:PySem.W.nsIn K mainGlobals "_law_names_by"=some (some (.ref f7)))
  (l7:K.lookup f7=some ⟨oc7,od7,.func (PySem.W.fnOf "_law_names_by" "_law_names_by" (defArgs sNamesBy) (defBody sNamesBy) (defScope sNamesBy) .none kV7 dc7 pm7 an7 cd7 ct7),sl7⟩)
  (c7:PySem.W.codeIn K cd7 "_law_names_by"=true)
  (k7:PySem.W.keepIn K (.ref f7)=true)
  (a8:PySem.W.nsIn K mainGlobals "_law_deeds_by"=some (some (.ref f8)))
  (l8:K.lookup f8=some ⟨oc8,od8,.func (PySem.W.fnOf "_law_deeds_by" "_law_deeds_by" (defArgs sDeedsBy) (defBody sDeedsBy) (defScope sDeedsBy) .none kV8 dc8 pm8 an8 cd8 ct8),sl8⟩)
  (c8:PySem.W.codeIn K cd8 "_law_deeds_by"=true)
  (k8:PySem.W.keepIn K (.ref f8)=true)
  (a9:PySem.W.nsIn K mainGlobals "_law_word"=some (some (.ref f9)))
  (l9:K.lookup f9=some ⟨oc9,od9,.func (PySem.W.fnOf "_law_word" "_law_word" (defArgs sWord) (defBody sWord) (defScope sWord) .none kV9 dc9 pm9 an9 cd9 ct9),sl9⟩)
  (c9:PySem.W.codeIn K cd9 "_law_word"=true)
  (k9:PySem.W.keepIn K (.ref f9)=true)
  (a10:PySem.W.nsIn K mainGlobals "_law_tried"=some (some (.ref f10)))
  (l10:K.lookup f10=some ⟨oc10,od10,.func (PySem.W.fnOf "_law_tried" "_law_tried" (defArgs sTried) (defBody sTried) (defScope sTried) .none kV10 dc10 pm10 an10 cd10 ct10),sl10⟩)
  (c10:PySem.W.codeIn K cd10 "_law_tried"=true)
  (k10:PySem.W.keepIn K (.ref f10)=true)
  (a11:PySem.W.nsIn K mainGlobals "named_rooms"=some (some (.ref f11)))
  (l11:K.lookup f11=some ⟨oc11,od11,.func (PySem.W.fnOf "named_rooms" "named_rooms" (defArgs sNamed) (defBody sNamed) (defScope sNamed) .none kV11 dc11 pm11 an11 cd11 ct11),sl11⟩)
  (c11:PySem.W.codeIn K cd11 "named_rooms"=true)
  (k11:PySem.W.keepIn K (.ref f11)=true)
  (a12:PySem.W.nsIn K mainGlobals "refuse_rooms"=some (some (.ref f12)))
  (l12:K.lookup f12=some ⟨oc12,od12,.func (PySem.W.fnOf "refuse_rooms" "refuse_rooms" (defArgs sRefRooms) (defBody sRefRooms) (defScope sRefRooms) .none kV12 dc12 pm12 an12 cd12 ct12),sl12⟩)
  (c12:PySem.W.codeIn K cd12 "refuse_rooms"=true)
  (k12:PySem.W.keepIn K (.ref f12)=true)
  (a13:PySem.W.nsIn K mainGlobals "leads_of"=some (some (.ref f13)))
  (l13:K.lookup f13=some ⟨oc13,od13,.func (PySem.W.fnOf "leads_of" "leads_of" (defArgs sLeads) (defBody sLeads) (defScope sLeads) .none kV13 dc13 pm13 an13 cd13 ct13),sl13⟩)
  (c13:PySem.W.codeIn K cd13 "leads_of"=true)
  (k13:PySem.W.keepIn K (.ref f13)=true)
  (a14:PySem.W.nsIn K mainGlobals "_law_rooms_by"=some (some (.ref f14)))
  (l14:K.lookup f14=some ⟨oc14,od14,.func (PySem.W.fnOf "_law_rooms_by" "_law_rooms_by" (defArgs sRoomsBy) (defBody sRoomsBy) (defScope sRoomsBy) .none kV14 dc14 pm14 an14 cd14 ct14),sl14⟩)
  (c14:PySem.W.codeIn K cd14 "_law_rooms_by"=true)
  (k14:PySem.W.keepIn K (.ref f14)=true)
  (a15:PySem.W.nsIn K mainGlobals "_law_machine_by"=some (some (.ref f15)))
  (l15:K.lookup f15=some ⟨oc15,od15,.func (PySem.W.fnOf "_law_machine_by" "_law_machine_by" (defArgs sMachineBy) (defBody sMachineBy) (defScope sMachineBy) .none kV15 dc15 pm15 an15 cd15 ct15),sl15⟩)
  (c15:PySem.W.codeIn K cd15 "_law_machine_by"=true)
  (k15:PySem.W.keepIn K (.ref f15)=true)
  (a16:PySem.W.nsIn K mainGlobals "_law_plant_by"=some (some (.ref f16)))
  (l16:K.lookup f16=some ⟨oc16,od16,.func (PySem.W.fnOf "_law_plant_by" "_law_plant_by" (defArgs sPlantBy) (defBody sPlantBy) (defScope sPlantBy) .none kV16 dc16 pm16 an16 cd16 ct16),sl16⟩)
  (c16:PySem.W.codeIn K cd16 "_law_plant_by"=true)
  (k16:PySem.W.keepIn K (.ref f16)=true)
  (a17:PySem.W.nsIn K mainGlobals "_law_rooms_of"=some (some (.ref f17)))
  (l17:K.lookup f17=some ⟨oc17,od17,.func (PySem.W.fnOf "_law_rooms_of" "_law_rooms_of" (defArgs sRoomsOf) (defBody sRoomsOf) (defScope sRoomsOf) .none kV17 dc17 pm17 an17 cd17 ct17),sl17⟩)
  (c17:PySem.W.codeIn K cd17 "_law_rooms_of"=true)
  (k17:PySem.W.keepIn K (.ref f17)=true)
  (a18:PySem.W.nsIn K mainGlobals "_law_doors_told"=some (some (.ref f18)))
  (l18:K.lookup f18=some ⟨oc18,od18,.func (PySem.W.fnOf "_law_doors_told" "_law_doors_told" (defArgs sDoorsTold) (defBody sDoorsTold) (defScope sDoorsTold) .none kV18 dc18 pm18 an18 cd18 ct18),sl18⟩)
  (c18:PySem.W.codeIn K cd18 "_law_doors_told"=true)
  (k18:PySem.W.keepIn K (.ref f18)=true)
  (a19:PySem.W.nsIn K mainGlobals "_law_told"=some (some (.ref f19)))
  (l19:K.lookup f19=some ⟨oc19,od19,.func (PySem.W.fnOf "_law_told" "_law_told" (defArgs sTold) (defBody sTold) (defScope sTold) .none kV19 dc19 pm19 an19 cd19 ct19),sl19⟩)
  (c19:PySem.W.codeIn K cd19 "_law_told"=true)
  (k19:PySem.W.keepIn K (.ref f19)=true)
  (a20:PySem.W.nsIn K mainGlobals "_law_odd"=some (some (.ref f20)))
  (l20:K.lookup f20=some ⟨oc20,od20,.func (PySem.W.fnOf "_law_odd" "_law_odd" (defArgs sOdd) (defBody sOdd) (defScope sOdd) .none kV20 dc20 pm20 an20 (.ref c0) ct20),sl20⟩)
  (c20:PySem.W.codeIn K (.ref c0) "_law_odd"=true)
  (k20:PySem.W.keepIn K (.ref f20)=true)
  (a21:PySem.W.nsIn K mainGlobals "law"=some (some (.ref f21)))
  (l21:K.lookup f21=some ⟨oc21,od21,.func (PySem.W.fnOf "law" "law" (defArgs sLaw) (defBody sLaw) (defScope sLaw) .none kV21 dc21 pm21 an21 cd21 ct21),sl21⟩)
  (c21:PySem.W.codeIn K cd21 "law"=true)
  (k21:PySem.W.keepIn K (.ref f21)=true)
  (aC:PySem.W.nsIn K mainGlobals "Deeds"=some (some (.ref C)))
  (qm0:PySem.W.findIn K (.ref C) "has"=some (some (.ref fm0)))
  (lm0:K.lookup fm0=some ⟨ocm0,odm0,.func (PySem.W.fnOf "has" "Deeds.has" (defArgs sHas) (defBody sHas) (defScope sHas) .none kVm0 dcm0 pmm0 anm0 cdm0 ctm0),slm0⟩)
  (cm0:PySem.W.codeIn K cdm0 "Deeds.has"=true)
  (km0:PySem.W.keepIn K (.ref fm0)=true)
  (nm0:PySem.W.isFn K (.ref fm0)=true)
  (qm1:PySem.W.findIn K (.ref C) "require"=some (some (.ref fm1)))
  (lm1:K.lookup fm1=some ⟨ocm1,odm1,.func (PySem.W.fnOf "require" "Deeds.require" (defArgs sRequire) (defBody sRequire) (defScope sRequire) .none kVm1 dcm1 pmm1 anm1 cdm1 ctm1),slm1⟩)
  (cm1:PySem.W.codeIn K cdm1 "Deeds.require"=true)
  (km1:PySem.W.keepIn K (.ref fm1)=true)
  (nm1:PySem.W.isFn K (.ref fm1)=true)
  (aM:PySem.W.nsIn K mainGlobals "Machine"=some (some (.ref CM)))
  (qM0:PySem.W.findIn K (.ref CM) "deeds"=some (some (.ref fM0)))
  (lM0:K.lookup fM0=some ⟨ocM0,odM0,.func (PySem.W.fnOf "deeds" "Machine.deeds" (defArgs mDeeds) (defBody mDeeds) (defScope mDeeds) .none kVM0 dcM0 pmM0 anM0 cdM0 ctM0),slM0⟩)
  (cM0:PySem.W.codeIn K cdM0 "Machine.deeds"=true)
  (kM0:PySem.W.keepIn K (.ref fM0)=true)
  (nM0:PySem.W.isFn K (.ref fM0)=true)
  (qM1:PySem.W.findIn K (.ref CM) "begin"=some (some (.ref fM1)))
  (lM1:K.lookup fM1=some ⟨ocM1,odM1,.func (PySem.W.fnOf "begin" "Machine.begin" (defArgs mBegin) (defBody mBegin) (defScope mBegin) .none kVM1 dcM1 pmM1 anM1 cdM1 ctM1),slM1⟩)
  (cM1:PySem.W.codeIn K cdM1 "Machine.begin"=true)
  (kM1:PySem.W.keepIn K (.ref fM1)=true)
  (nM1:PySem.W.isFn K (.ref fM1)=true)
  (qM2:PySem.W.findIn K (.ref CM) "rooms"=some (some (.ref fM2)))
  (lM2:K.lookup fM2=some ⟨ocM2,odM2,.func (PySem.W.fnOf "rooms" "Machine.rooms" (defArgs mRooms) (defBody mRooms) (defScope mRooms) .none kVM2 dcM2 pmM2 anM2 cdM2 ctM2),slM2⟩)
  (cM2:PySem.W.codeIn K cdM2 "Machine.rooms"=true)
  (kM2:PySem.W.keepIn K (.ref fM2)=true)
  (nM2:PySem.W.isFn K (.ref fM2)=true)
  (qM3:PySem.W.findIn K (.ref CM) "ends"=some (some (.ref fM3)))
  (lM3:K.lookup fM3=some ⟨ocM3,odM3,.func (PySem.W.fnOf "ends" "Machine.ends" (defArgs mEnds) (defBody mEnds) (defScope mEnds) .none kVM3 dcM3 pmM3 anM3 cdM3 ctM3),slM3⟩)
  (cM3:PySem.W.codeIn K cdM3 "Machine.ends"=true)
  (kM3:PySem.W.keepIn K (.ref fM3)=true)
  (nM3:PySem.W.isFn K (.ref fM3)=true)
  (qM4:PySem.W.findIn K (.ref CM) "knows"=some (some (.ref fM4)))
  (lM4:K.lookup fM4=some ⟨ocM4,odM4,.func (PySem.W.fnOf "knows" "Machine.knows" (defArgs mKnows) (defBody mKnows) (defScope mKnows) .none kVM4 dcM4 pmM4 anM4 cdM4 ctM4),slM4⟩)
  (cM4:PySem.W.codeIn K cdM4 "Machine.knows"=true)
  (kM4:PySem.W.keepIn K (.ref fM4)=true)
  (nM4:PySem.W.isFn K (.ref fM4)=true)
  (qM5:PySem.W.findIn K (.ref CM) "require_room"=some (some (.ref fM5)))
  (lM5:K.lookup fM5=some ⟨ocM5,odM5,.func (PySem.W.fnOf "require_room" "Machine.require_room" (defArgs mReqRoom) (defBody mReqRoom) (defScope mReqRoom) .none kVM5 dcM5 pmM5 anM5 cdM5 ctM5),slM5⟩)
  (cM5:PySem.W.codeIn K cdM5 "Machine.require_room"=true)
  (kM5:PySem.W.keepIn K (.ref fM5)=true)
  (nM5:PySem.W.isFn K (.ref fM5)=true)
  (qM6:PySem.W.findIn K (.ref CM) "at"=some (some (.ref fM6)))
  (lM6:K.lookup fM6=some ⟨ocM6,odM6,.func (PySem.W.fnOf "at" "Machine.at" (defArgs mAt) (defBody mAt) (defScope mAt) .none kVM6 dcM6 pmM6 anM6 cdM6 ctM6),slM6⟩)
  (cM6:PySem.W.codeIn K cdM6 "Machine.at"=true)
  (kM6:PySem.W.keepIn K (.ref fM6)=true)
  (nM6:PySem.W.isFn K (.ref fM6)=true)
  (qM7:PySem.W.findIn K (.ref CM) "to"=some (some (.ref fM7)))
  (lM7:K.lookup fM7=some ⟨ocM7,odM7,.func (PySem.W.fnOf "to" "Machine.to" (defArgs mTo) (defBody mTo) (defScope mTo) .none kVM7 dcM7 pmM7 anM7 cdM7 ctM7),slM7⟩)
  (cM7:PySem.W.codeIn K cdM7 "Machine.to"=true)
  (kM7:PySem.W.keepIn K (.ref fM7)=true)
  (nM7:PySem.W.isFn K (.ref fM7)=true)
  (qM8:PySem.W.findIn K (.ref CM) "is_end"=some (some (.ref fM8)))
  (lM8:K.lookup fM8=some ⟨ocM8,odM8,.func (PySem.W.fnOf "is_end" "Machine.is_end" (defArgs mIsEnd) (defBody mIsEnd) (defScope mIsEnd) .none kVM8 dcM8 pmM8 anM8 cdM8 ctM8),slM8⟩)
  (cM8:PySem.W.codeIn K cdM8 "Machine.is_end"=true)
  (kM8:PySem.W.keepIn K (.ref fM8)=true)
  (nM8:PySem.W.isFn K (.ref fM8)=true)
  (qMI:PySem.W.findIn K (.ref CM) "__init__"=some (some (.ref fMI)))
  (lMI:K.lookup fMI=some ⟨ocMI,odMI,.func (PySem.W.fnOf "__init__" "Machine.__init__" (defArgs mInit) (defBody mInit) (defScope mInit) (.ref Te) kVMI dcMI pmMI anMI cdMI ctMI),slMI⟩)
  (cMI:PySem.W.codeIn K cdMI "Machine.__init__"=true)
  (kMI:PySem.W.keepIn K (.ref fMI)=true)
  (nMI:PySem.W.isFn K (.ref fMI)=true)
  (lE:K.lookup Te=some ⟨ocE,odE,.seq #[.none] nE,slE⟩)
  (mkM:PySem.W.makesIn K CM=true)
  (kpM:PySem.W.keepIn K (.ref CM)=true)
  (pgM:PySem.W.plainGet K CM Str.empty=true)
  (hdM:PySem.W.hasDictIn K CM=true)
  (poM:PySem.W.plainOver K CM=true)
  (saM:PySem.W.findIn K (.ref CM) "__setattr__" = some (some (.builtin "object.__setattr__")))
  (nM0_:PySem.W.findIn K (.ref CM) "leads"=some none)
  (nM1_:PySem.W.findIn K (.ref CM) "deeds_made_of"=some none)
  (nM2_:PySem.W.findIn K (.ref CM) "first_room"=some none)
  (nM3_:PySem.W.findIn K (.ref CM) "end_marks"=some none)
  (nM4_:PySem.W.findIn K (.ref CM) "known_marks"=some none)
  (qI:PySem.W.findIn K (.ref C) "__init__"=some (some (.ref fI)))
  (lI:K.lookup fI=some ⟨ocI,odI,.func (PySem.W.fnOf "__init__" "Deeds.__init__" (defArgs sInit) (defBody sInit) (defScope sInit) (.ref Td) kVI dcI pmI anI cdI ctI),slI⟩)
  (cI:PySem.W.codeIn K cdI "Deeds.__init__"=true)
  (kI:PySem.W.keepIn K (.ref fI)=true)
  (nI:PySem.W.isFn K (.ref fI)=true)
  (lT:K.lookup Td=some ⟨ocT,odT,.seq #[.none] nT,slT⟩)
  (mkC:PySem.W.makesIn K C=true)
  (kpC:PySem.W.keepIn K (.ref C)=true)
  (pgC:PySem.W.plainGet K C Str.empty=true)
  (hdC:PySem.W.hasDictIn K C=true)
  (poC:PySem.W.plainOver K C=true)
  (saC:PySem.W.findIn K (.ref C) "__setattr__" = some (some (.builtin "object.__setattr__")))
  (nwC:PySem.W.findIn K (.ref C) "weights"=some none)
  (nfC:PySem.W.findIn K (.ref C) "free_marks"=some none)
  (e0:PySem.W.nsIn K mainGlobals "NoName"=some (some (.ref d0)))
  (e1:PySem.W.nsIn K mainGlobals "NoDeed"=some (some (.ref d1)))
  (e2:PySem.W.nsIn K mainGlobals "NoRoom"=some (some (.ref d2)))
  (e3:PySem.W.nsIn K mainGlobals "TwiceTold"=some (some (.ref d3)))
  (e4:PySem.W.nsIn K mainGlobals "TooMany"=some (some (.ref d4)))
  (e5:PySem.W.nsIn K mainGlobals "NoRule"=some (some (.ref d5)))
  (e6:PySem.W.nsIn K mainGlobals "NoRow"=some (some (.ref d6)))
  (e7:PySem.W.nsIn K mainGlobals "NoHold"=some (some (.ref d7)))
  (e8:PySem.W.nsIn K mainGlobals "NoHolder"=some (some (.ref d8)))
  (e9:PySem.W.nsIn K mainGlobals "FreeDeed"=some (some (.ref d9)))
  (e10:PySem.W.nsIn K mainGlobals "NotNow"=some (some (.ref d10)))
  (e11:PySem.W.nsIn K mainGlobals "NoWarden"=some (some (.ref d11)))
  (e12:PySem.W.nsIn K mainGlobals "NoText"=some (some (.ref d12)))
  (e13:PySem.W.nsIn K mainGlobals "NoBook"=some (some (.ref d13)))
  (eW:PySem.W.nsIn K mainGlobals "WardError"=some (some (.ref W)))
  (xa0:PySem.W.excIn K d0 veMro "ValueError.__new__"=true)
  (xa1:PySem.W.excIn K d1 veMro "ValueError.__new__"=true)
  (xa2:PySem.W.excIn K d2 veMro "ValueError.__new__"=true)
  (xa3:PySem.W.excIn K d3 veMro "ValueError.__new__"=true)
  (xa4:PySem.W.excIn K d4 veMro "ValueError.__new__"=true)
  (xb1:PySem.W.findIn K (.ref d1) "__class__" = some (some (.builtin "object.__class__")))
  (xc1:PySem.W.findIn K (.ref d1) "__getattribute__" = some (some (.builtin "BaseException.__getattribute__")))
  (xd1:PySem.W.findIn K (.ref d1) "__getattr__"=some none)
  (xe1:PySem.W.mroIn K d1 (.type "object")=some true)
  (xf1:PySem.W.mroIn K d1 (.type "BaseException")=some true)
  (xb2:PySem.W.findIn K (.ref d2) "__class__" = some (some (.builtin "object.__class__")))
  (xc2:PySem.W.findIn K (.ref d2) "__getattribute__" = some (some (.builtin "BaseException.__getattribute__")))
  (xd2:PySem.W.findIn K (.ref d2) "__getattr__"=some none)
  (xe2:PySem.W.mroIn K d2 (.type "object")=some true)
  (xf2:PySem.W.mroIn K d2 (.type "BaseException")=some true)
  (kt:kitB K [d0,d1,d2,d3,d4,d5,d6,d7,d8,d9,d10,d11,d12,d13]=true)
  (kv:veB K [d0,d1,d2,d3,d4,d5,d6,d7,d8,d9,d10,d11,d12,d13]=true)
  (kw:exB K [d0,d1,d2,d3,d4,d5,d6,d7,d8,d9,d10,d11,d12,d13] W=true)
  (ncE:PySem.W.findIn K (.ref C) "__eq__" = some (some (.builtin "object.__eq__")))
  (ncN:PySem.W.findIn K (.ref C) "__ne__" = some (some (.builtin "object.__ne__")))
  (ncM:PySem.W.mroIn K C (.type "object")=some true)
  (hhd:PySem.W.codeHdIn K c0 Pt=true)
  (cst0:PySem.W.nsIn K mainGlobals "LETTERS"=some (some (.str letters t0)))
  (cst1:PySem.W.nsIn K mainGlobals "FIGURES"=some (some (.str figures t1)))
  (cst2:PySem.W.nsIn K mainGlobals "MOST_SIGNS"=some (some (.int 8 t2)))
  (cst3:PySem.W.nsIn K mainGlobals "MOST_DEEDS"=some (some (.int 12 t3)))
  (cst4:PySem.W.nsIn K mainGlobals "MOST_ROOMS"=some (some (.int 60 t4)))
  (z0:PySem.W.nsIn K mainGlobals "isinstance"=some none)
  (z1:PySem.W.nsIn K mainGlobals "str"=some none)
  (z2:PySem.W.nsIn K mainGlobals "bool"=some none)
  (z3:PySem.W.nsIn K mainGlobals "int"=some none)
  (z4:PySem.W.nsIn K mainGlobals "len"=some none)
  (z5:PySem.W.nsIn K mainGlobals "all"=some none)
  (z6:PySem.W.nsIn K mainGlobals "range"=some none)
  (z7:PySem.W.nsIn K mainGlobals "sorted"=some none)
  (z8:PySem.W.nsIn K mainGlobals "list"=some none)
  (z9:PySem.W.nsIn K mainGlobals "enumerate"=some none)
  (z10:PySem.W.nsIn K mainGlobals "ValueError"=some none)
  (z11:PySem.W.nsIn K mainGlobals "set"=some none) :
  ∃ fd:FuncData,(∀ (s:Shared) (v:Value),BindsTo s fd ⟨[v],[]⟩ [("_law_script",v)])∧∀ base:Heap,K.In base→base.Ns mainGlobals mg→BMain mg base→FnOk l.prog w K mg base CX0 9 fa fd ["_law_script"] (spLaw K Pt):=by
 have e:=hfa.symm.trans (PySem.W.mg_of X G a21)
 cases e
 have T:Txt K mg:=⟨⟨_,PySem.W.mg_of X G cst0⟩,⟨_,PySem.W.mg_of X G cst1⟩,⟨_,PySem.W.mg_of X G cst2⟩,⟨_,PySem.W.mg_of X G cst3⟩,PySem.W.mg_none_of X G z0,PySem.W.mg_none_of X G z1,PySem.W.mg_none_of X G z2,PySem.W.mg_none_of X G z3,PySem.W.mg_none_of X G z4,PySem.W.mg_none_of X G z5,PySem.W.mg_none_of X G z6,PySem.W.mg_none_of X G z7,PySem.W.mg_none_of X G z8,PySem.W.mg_none_of X G z9⟩
 have F1:=fun_mk (st:=sMixed) l1 c1 k1
 have b1:=F1.binds (ps:=["_law_cell","_law_k"]) fun _ _ _ _ _ _=>len2 (fun _ _=>rfl)
 have F2:=fun_mk (st:=sCell) l2 c2 k2
 have b2:=F2.binds (ps:=["_law_script","_law_k"]) fun _ _ _ _ _ _=>len2 (fun _ _=>rfl)
 have F3:=fun_mk (st:=sName) l3 c3 k3
 have b3:=F3.binds (ps:=["thing"]) fun _ _ _ _ _ _=>len1 (fun _=>rfl)
 have F4:=fun_mk (st:=sRefuse) l4 c4 k4
 have b4:=F4.binds (ps:=["names"]) fun _ _ _ _ _ _=>len1 (fun _=>rfl)
 have F5:=fun_mk (st:=sWeights) l5 c5 k5
 have b5:=F5.binds (ps:=["names"]) fun _ _ _ _ _ _=>len1 (fun _=>rfl)
 have F6:=fun_mk (st:=sMarks) l6 c6 k6
 have b6:=F6.binds (ps:=["names"]) fun _ _ _ _ _ _=>len1 (fun _=>rfl)
 have F7:=fun_mk (st:=sNamesBy) l7 c7 k7
 have b7:=F7.binds (ps:=["_law_cell","_law_many"]) fun _ _ _ _ _ _=>len2 (fun _ _=>rfl)
 have F8:=fun_mk (st:=sDeedsBy) l8 c8 k8
 have b8:=F8.binds (ps:=["_law_cell"]) fun _ _ _ _ _ _=>len1 (fun _=>rfl)
 have F9:=fun_mk (st:=sWord) l9 c9 k9
 have b9:=F9.binds (ps:=["_law_e"]) fun _ _ _ _ _ _=>len1 (fun _=>rfl)
 have F10:=fun_mk (st:=sTried) l10 c10 k10
 have b10:=F10.binds (ps:=["_law_deed"]) fun _ _ _ _ _ _=>len1 (fun _=>rfl)
 have F11:=fun_mk (st:=sNamed) l11 c11 k11
 have b11:=F11.binds (ps:=["begin","ends","doors"]) fun _ _ _ _ _ _=>len3 (fun _ _ _=>rfl)
 have F12:=fun_mk (st:=sRefRooms) l12 c12 k12
 have b12:=F12.binds (ps:=["rooms"]) fun _ _ _ _ _ _=>len1 (fun _=>rfl)
 have F13:=fun_mk (st:=sLeads) l13 c13 k13
 have b13:=F13.binds (ps:=["rooms","doors"]) fun _ _ _ _ _ _=>len2 (fun _ _=>rfl)
 have F14:=fun_mk (st:=sRoomsBy) l14 c14 k14
 have b14:=F14.binds (ps:=["_law_cell","_law_many"]) fun _ _ _ _ _ _=>len2 (fun _ _=>rfl)
 have F15:=fun_mk (st:=sMachineBy) l15 c15 k15
 have b15:=F15.binds (ps:=["_law_cell","_law_names","_law_many"]) fun _ _ _ _ _ _=>len3 (fun _ _ _=>rfl)
 have F16:=fun_mk (st:=sPlantBy) l16 c16 k16
 have b16:=F16.binds (ps:=["_law_cells","_law_names"]) fun _ _ _ _ _ _=>len2 (fun _ _=>rfl)
 have F17:=fun_mk (st:=sRoomsOf) l17 c17 k17
 have b17:=F17.binds (ps:=["_law_row"]) fun _ _ _ _ _ _=>len1 (fun _=>rfl)
 have F18:=fun_mk (st:=sDoorsTold) l18 c18 k18
 have b18:=F18.binds (ps:=["_law_machine","_law_row","_law_names"]) fun _ _ _ _ _ _=>len3 (fun _ _ _=>rfl)
 have F19:=fun_mk (st:=sTold) l19 c19 k19
 have b19:=F19.binds (ps:=["_law_machine","_law_row"]) fun _ _ _ _ _ _=>len2 (fun _ _=>rfl)
 have b20:Binds K (PySem.W.fnOf "_law_odd" "_law_odd" (defArgs sOdd) (defBody sOdd) (defScope sOdd) .none kV20 dc20 pm20 an20 (.ref c0) ct20) ["_law_machine","_law_room","_law_names","_law_cell"] []:=(show Fun K "_law_odd" "_law_odd" sOdd f20 _ from fun_mk (st:=sOdd) l20 c20 k20).binds (ps:=["_law_machine","_law_room","_law_names","_law_cell"]) fun _ _ _ _ _ _=>len4 (fun _ _ _ _=>rfl)
 have Fm0:=fun_mk (st:=sHas) lm0 cm0 km0
 have bm0:=Fm0.binds (ps:=["self","thing"]) fun _ _ _ _ _ _=>len2 (fun _ _=>rfl)
 have Mm0:Meth K C "has" fm0:=⟨qm0,nm0,km0⟩
 have Fm1:=fun_mk (st:=sRequire) lm1 cm1 km1
 have bm1:=Fm1.binds (ps:=["self","row"]) fun _ _ _ _ _ _=>len2 (fun _ _=>rfl)
 have Mm1:Meth K C "require" fm1:=⟨qm1,nm1,km1⟩
 have FM0:=fun_mk (st:=mDeeds) lM0 cM0 kM0
 have bM0:=FM0.binds (ps:=["self"]) fun _ _ _ _ _ _=>len1 (fun _=>rfl)
 have MM0:Meth K CM "deeds" fM0:=⟨qM0,nM0,kM0⟩
 have FM1:=fun_mk (st:=mBegin) lM1 cM1 kM1
 have bM1:=FM1.binds (ps:=["self"]) fun _ _ _ _ _ _=>len1 (fun _=>rfl)
 have MM1:Meth K CM "begin" fM1:=⟨qM1,nM1,kM1⟩
 have FM2:=fun_mk (st:=mRooms) lM2 cM2 kM2
 have bM2:=FM2.binds (ps:=["self"]) fun _ _ _ _ _ _=>len1 (fun _=>rfl)
 have MM2:Meth K CM "rooms" fM2:=⟨qM2,nM2,kM2⟩
 have FM3:=fun_mk (st:=mEnds) lM3 cM3 kM3
 have bM3:=FM3.binds (ps:=["self"]) fun _ _ _ _ _ _=>len1 (fun _=>rfl)
 have MM3:Meth K CM "ends" fM3:=⟨qM3,nM3,kM3⟩
 have FM4:=fun_mk (st:=mKnows) lM4 cM4 kM4
 have bM4:=FM4.binds (ps:=["self"]) fun _ _ _ _ _ _=>len1 (fun _=>rfl)
 have MM4:Meth K CM "knows" fM4:=⟨qM4,nM4,kM4⟩
 have FM5:=fun_mk (st:=mReqRoom) lM5 cM5 kM5
 have bM5:=FM5.binds (ps:=["self","room"]) fun _ _ _ _ _ _=>len2 (fun _ _=>rfl)
 have MM5:Meth K CM "require_room" fM5:=⟨qM5,nM5,kM5⟩
 have FM6:=fun_mk (st:=mAt) lM6 cM6 kM6
 have bM6:=FM6.binds (ps:=["self","room"]) fun _ _ _ _ _ _=>len2 (fun _ _=>rfl)
 have MM6:Meth K CM "at" fM6:=⟨qM6,nM6,kM6⟩
 have FM7:=fun_mk (st:=mTo) lM7 cM7 kM7
 have bM7:=FM7.binds (ps:=["self","room","deed"]) fun _ _ _ _ _ _=>len3 (fun _ _ _=>rfl)
 have MM7:Meth K CM "to" fM7:=⟨qM7,nM7,kM7⟩
 have FM8:=fun_mk (st:=mIsEnd) lM8 cM8 kM8
 have bM8:=FM8.binds (ps:=["self","room"]) fun _ _ _ _ _ _=>len2 (fun _ _=>rfl)
 have MM8:Meth K CM "is_end" fM8:=⟨qM8,nM8,kM8⟩
 have FI:FunD K "__init__" "Deeds.__init__" sInit fI _:=⟨⟨_,_,_,_,_,_,_,_,_,_,rfl,lI,cI⟩,kI⟩
 have bI:Binds K _ ["self","names","free"] []:=fun s us KX hl=>by
  rw [List.append_nil] at hl ⊢
  revert us
  exact len3 fun _ _ _=>BindsTo.of_defaults (fd:=PySem.W.fnOf "__init__" "Deeds.__init__" (defArgs sInit) (defBody sInit) (defScope sInit) (.ref Td) kVI dcI pmI anI cdI ctI) rfl (KX _ _ lT) rfl rfl rfl
 have FMI:FunD K "__init__" "Machine.__init__" mInit fMI _:=⟨⟨_,_,_,_,_,_,_,_,_,_,rfl,lMI,cMI⟩,kMI⟩
 have bMI:Binds K _ ["self","deeds","begin","ends","doors","more"] []:=fun s us KX hl=>by
  rw [List.append_nil] at hl ⊢
  revert us
  exact len6 fun _ _ _ _ _ _=>BindsTo.of_defaults (fd:=PySem.W.fnOf "__init__" "Machine.__init__" (defArgs mInit) (defBody mInit) (defScope mInit) (.ref Te) kVMI dcMI pmMI anMI cdMI ctMI) rfl (KX _ _ lE) rfl rfl rfl
 have bMI1:Binds K (PySem.W.fnOf "__init__" "Machine.__init__" (defArgs mInit) (defBody mInit) (defScope mInit) (.ref Te) kVMI dcMI pmMI anMI cdMI ctMI) ["self","deeds","begin","ends","doors","more"] [.none]:=fun s us KX hl=>by
  have hl':us.length=5:=by
   have:us.length+1=6:=by simpa using hl
   omega
  clear hl
  revert us
  exact len5 fun _ _ _ _ _=>BindsTo.of_defaults (fd:=PySem.W.fnOf "__init__" "Machine.__init__" (defArgs mInit) (defBody mInit) (defScope mInit) (.ref Te) kVMI dcMI pmMI anMI cdMI ctMI) rfl (KX _ _ lE) rfl rfl rfl
 have MC:MCls K CM:=⟨⟨pgM,hdM,poM,saM⟩,nM0_,nM1_,nM2_,nM3_,nM4_⟩
 have MMk:Mk K CM fMI:=⟨mkM,qMI,nMI,kpM⟩
 have DC:DCls K C:=⟨⟨pgC,hdC,poC,saC⟩,nwC,nfC⟩
 have MI:Mk K C fI:=⟨mkC,qI,nI,kpC⟩
 let ds:Nat→Addr:=fun j=>([d0,d1,d2,d3,d4,d5,d6,d7,d8,d9,d10,d11,d12,d13]:List Addr).getD j 0
 have Wf:Wd K mg ds:=by
  refine ⟨eachIn_at (ns:=nms) (as:=[d0,d1,d2,d3,d4,d5,d6,d7,d8,d9,d10,d11,d12,d13]) ⟨PySem.W.mg_of X G e0,PySem.W.mg_of X G e1,PySem.W.mg_of X G e2,PySem.W.mg_of X G e3,PySem.W.mg_of X G e4,PySem.W.mg_of X G e5,PySem.W.mg_of X G e6,PySem.W.mg_of X G e7,PySem.W.mg_of X G e8,PySem.W.mg_of X G e9,PySem.W.mg_of X G e10,PySem.W.mg_of X G e11,PySem.W.mg_of X G e12,PySem.W.mg_of X G e13,trivial⟩,fun i hi=>?_,fun i hi j hj=>?_,fun i hi=>?_,PySem.W.mg_none_of X G z10⟩
  ·rcases List.mem_cons.mp hi with rfl | hi
   ·exact ⟨xa1,xb1,xc1,xd1,xe1,xf1⟩
   rcases List.mem_cons.mp hi with rfl | hi
   ·exact ⟨xa2,xb2,xc2,xd2,xe2,xf2⟩
   cases hi
  ·exact beq_iff_eq.mp (List.all_eq_true.mp (List.all_eq_true.mp kt i hi) j (List.mem_range.mpr hj))
  ·exact beq_iff_eq.mp (List.all_eq_true.mp kv i hi)
 have hkw:∀ i∈thrown,PySem.W.exmOne K (.ref (ds i)) (.ref W)=some true:=fun i hi=>beq_iff_eq.mp (List.all_eq_true.mp kw i hi)
 have Ex:Exc K mg (fun k=>ds (ix k)):=⟨PySem.W.mg_of X G e0,PySem.W.mg_of X G e1,PySem.W.mg_of X G e3,PySem.W.mg_of X G e4,fun k=>match k with | .noName=>xa0 | .noDeed=>xa1 | .twice=>xa3 | .tooMany=>xa4⟩
 have NC:NoCmp K C:=⟨ncE,ncN,ncM⟩
 have F21:=fun_mk (st:=sLaw) l21 c21 k21
 refine ⟨PySem.W.fnOf "law" "law" (defArgs sLaw) (defBody sLaw) (defScope sLaw) .none kV21 dc21 pm21 an21 cd21 ct21,fun s v=>.of_eq rfl,fun base _ _ bm=>?_⟩
 have GQ:=ok_require (P:=l.prog) (w:=w) (mg:=mg) (base:=base) Fm1 T Ex DC F3 b3 (PySem.W.mg_of X G a3) Fm0 bm0 Mm0
 have GK:=ok_marks (P:=l.prog) (w:=w) (mg:=mg) (base:=base) F6 T
 have GC:=ok_cell (P:=l.prog) (w:=w) (mg:=mg) (base:=base) F2 T F1 b1 (PySem.W.mg_of X G a1)
 have zS:mg "set"=none:=PySem.W.mg_none_of X G z11
 have GRq:FnOk l.prog w K mg base (CXE l.prog w) 2 fM5 _ ["self","room"] (spMReqE CM (ds 2)):=ok_mReqE FM5 T MC (PySem.W.mg_of X G e2) xa2 F3 b3 (PySem.W.mg_of X G a3)
 have GAt:FnOk l.prog w K mg base (CXE l.prog w) 3 fM6 _ ["self","room"] (spMAtE CM (ds 2)):=ok_mAtE FM6 T MC GRq bM5 MM5
 have GEd:FnOk l.prog w K mg base (CXE l.prog w) 3 fM8 _ ["self","room"] (spMIsEndE CM (ds 2)):=ok_mIsEndE FM8 MC GRq bM5 MM5
 have GTm:FnOk l.prog w K mg base (CXE l.prog w) 4 fM7 _ ["self","room","deed"] (spMToE C CM (ds 2) (ds 1)):=ok_mToE (cl:=fun k=>ds (ix k)) FM7 T DC MC GRq bM5 MM5 GQ bm1 Mm1
 have GR:=ok_roomsOf (P:=l.prog) (w:=w) (mg:=mg) (base:=base) F17 T zS
 have GB:=ok_mBegin (P:=l.prog) (w:=w) (mg:=mg) (base:=base) FM1 MC
 have GRo:=ok_mRooms (P:=l.prog) (w:=w) (mg:=mg) (base:=base) FM2 T MC
 have GEn:=ok_mEnds (P:=l.prog) (w:=w) (mg:=mg) (base:=base) FM3 T MC
 have GKn:=ok_mKnows (P:=l.prog) (w:=w) (mg:=mg) (base:=base) FM4 T MC
 exact ok_law F21 T MC NC
  GC k2 b2 (PySem.W.mg_of X G a2)
  (ok_deedsBy F8 T F1 b1 (PySem.W.mg_of X G a1) F7 b7 (PySem.W.mg_of X G a7)) k8 b8 (PySem.W.mg_of X G a8)
  (ok_init FI T DC (ok_refuse F4 T Ex F3 b3 (PySem.W.mg_of X G a3)) k4 b4 (PySem.W.mg_of X G a4) (ok_weights F5 T) k5 b5 (PySem.W.mg_of X G a5) GK k6 b6 (PySem.W.mg_of X G a6) GQ bm1 Mm1) MI bI (PySem.W.mg_of X G aC)
  (ok_plantBy F16 T (ok_machineBy F15 T (ok_mixed F1) k1 b1 (PySem.W.mg_of X G a1) (ok_roomsBy F14 T) k14 b14 (PySem.W.mg_of X G a14)) k15 b15 (PySem.W.mg_of X G a15)) k16 b16 (PySem.W.mg_of X G a16)
  (ok_mInit FMI T DC MC ⟨_,PySem.W.mg_of X G cst4⟩ (ok_named F11) k11 b11 (PySem.W.mg_of X G a11) (ok_refRooms F12 T Ex F3 b3 (PySem.W.mg_of X G a3)) k12 b12 (PySem.W.mg_of X G a12) (ok_leads F13) k13 b13 (PySem.W.mg_of X G a13) GK k6 b6 (PySem.W.mg_of X G a6) GQ bm1 Mm1) MMk bMI bMI1 (PySem.W.mg_of X G aM)
  (ok_mDeeds FM0 MC) bM0 MM0
  GRo bM2 MM2 GEn bM3 MM3 GKn bM4 MM4 GAt bM6 MM6
  (ok_told F19 T zS MC GR k17 b17 (PySem.W.mg_of X G a17) GB bM1 MM1 GRo bM2 MM2 GEn bM3 MM3 GKn bM4 MM4) k19 b19 (PySem.W.mg_of X G a19)
  (ok_doorsTold F18 T MC GR k17 b17 (PySem.W.mg_of X G a17) GAt bM6 MM6 GEd bM8 MM8 GTm bM7 MM7) k18 b18 (PySem.W.mg_of X G a18)
  (ok_odd l20 c20 hhd bm T MC Wf hkw (PySem.W.mg_of X G eW) GAt bM6 MM6 GEd bM8 MM8 GTm bM7 MM7 F10 b10 (PySem.W.mg_of X G a10) (ok_word F9 T Wf) k9 b9 (PySem.W.mg_of X G a9)) k20 b20 (PySem.W.mg_of X G a20)
theorem walk {l:PySem.W.OpenLaw} {q:Program} {loose:List Str} {XP:(Str→Option Value)→Heap→Prop} {YP:World→Heap→Prop} {d:DefRec} {K:Params→PySem.W.Frag} {c0:Addr} (Pt:Addr) (hn:l.most=some 63) (hdf:d.params.defaults=[])
  (hY:∀ (w:World) (h:Heap),YP w h→(K w.params).In h∧∀ p∈[Pt],h.get? p=some (PySem.W.tabObj #[]))
  (F:∀ (w:World) (mg:Str→Option Value) (fa:Addr) (h:Heap),(K w.params).In h→h.Ns mainGlobals mg→mg d.name=some (.ref fa) →
   ∃ fd:FuncData,(∀ (s:Shared) (u:Value),BindsTo s fd ⟨[u],[]⟩ [("_law_script",u)])∧∀ base:Heap,(K w.params).In base→base.Ns mainGlobals mg→BMain mg base→FnOk l.prog w (K w.params) mg base CX0 9 fa fd ["_law_script"] (spLaw (K w.params) Pt))
  (hK:∀ (w:World),PySem.W.codeHdIn (K w.params) c0 Pt=true) (hN:∀ (w:World),(K w.params).lookup Pt=none) :
  PySem.W.WalkO q loose XP YP l.row.toRowW d [] (fun f vs=>PySem.call f vs):=
 L2.walk_ofT (n:=63) (k:=9) (x:="_law_script") (sp:=fun w=>spLaw (K w.params) Pt) [(c0,Pt)] hn (by decide) hdf ⟨rfl,by decide,by decide⟩
  (fun w h Y=>⟨(hY w h Y).1,fun p hp=>by
   have:p=(c0,Pt):=by simpa using hp
   subst this
   exact (hY w h Y).2 Pt (by simp)⟩)
  (fun w p hp=>by
   have:p=(c0,Pt):=by simpa using hp
   subst this
   exact ⟨hK w,hN w⟩) F
  (fun w H a ns hl hT hS=>⟨a,ns,rfl,hS,hl,hT (c0,Pt) (by simp),fun _=>rfl⟩)
end K14
namespace Hd
open PySem PySem.W
noncomputable abbrev fTab:=PySem.W.Fast.tw14364793385576792824
noncomputable abbrev fSegT:=PySem.W.Fast.tw10110043849684766642
noncomputable abbrev fSeg:=PySem.W.Fast.tw14374325043358763698
noncomputable abbrev fGo:=PySem.W.Fast.tw15667345088766844465
noncomputable abbrev fRun:=PySem.W.Fast.tw14082659384304107361
noncomputable abbrev fDen:=PySem.W.Fast.tw11892475500146522536
noncomputable abbrev fSeen:=PySem.W.Fast.tw4187177175401517315
theorem eTab:PySem.treeTable=fTab:=PySem.W.Fast.te14364793385576792824
theorem eSegT:@PySem.W.segRunT=fSegT:=PySem.W.Fast.te10110043849684766642
theorem eSeg:@PySem.W.segRun=fSeg:=PySem.W.Fast.te14374325043358763698
theorem eGo:@PySem.W.topGo=fGo:=PySem.W.Fast.te15667345088766844465
theorem eRun:@PySem.W.topRun=fRun:=PySem.W.Fast.te14082659384304107361
theorem eDen:@PySem.denote=fDen:=PySem.W.Fast.te11892475500146522536
theorem eSeen:@PySem.W.openSeen=fSeen:=PySem.W.Fast.te4187177175401517315
noncomputable abbrev an:Option Value:=some (.ref 6)
noncomputable abbrev p0:Pos:=⟨0,0,0,0⟩
noncomputable abbrev d0:Drawn:=⟨0,0,0,0⟩
noncomputable def lf:Life:=⟨[],[],[],0,[],[],false,#[],[],0,false,false,false,0,[2000,10,10],false,0,true,[],[],0,false⟩
noncomputable def St (T:Params→BT) (n k:Nat) (w:World) (os:OsState):SharedT:=⟨T w.params,n,lf,#[],d0,k,os⟩
noncomputable def Sh (H:Params→Heap) (k:Nat) (w:World) (os:OsState):Shared:=⟨H w.params,#[],d0,k,os⟩
noncomputable abbrev cd (p:Program) (env:Env):Code:=.body (behindTheImports p) env
noncomputable abbrev B:List Frame:=[topFrame p0]
noncomputable def Pre (p:Program) (env:Env) (H:Params→Heap) (k s:Nat) (a:Pos):Prop:=
 ∀ w:World,(fun os=>fGo fTab p w 11 an s ⟨boot_heap w.params,Array.mk [],boot_drawn,boot_toks,os⟩ (topStub p))=fun os=>some (Sh H k w os,⟨fDen fTab (cd p env),cd p env,a,B⟩)
noncomputable def Blk (p:Program) (env:Env) (H:Params→Heap) (k:Nat) (T:Params→BT) (n k' s:Nat) (a b:Pos):Prop:=
 ∀ w:World,(fun os=>fSeg fTab p w 11 an 1 s (Sh H k w os) (blockOf (behindTheImports p) env (cd p env) a B))=fun os=>some (.next,(St T n k' w os).abs,cd p env,b)
noncomputable def Pc (p:Program) (env:Env) (T:Params→BT) (n k:Nat) (T':Params→BT) (n' k' s:Nat) (l:List Stmt) (a b:Pos):Prop:=
 ∀ w:World,(fun os=>fSegT fTab p w 11 an 1 s (St T n k w os) (piecesOf l env (cd p env) a B))=fun os=>some (.next,St T' n' k' w os,cd p env,b)
noncomputable def Fi (p:Program) (env:Env) (T:Params→BT) (n k:Nat) (H:Params→Heap) (k' s:Nat) (a:Pos):Prop:=
 ∀ w:World,(fun os=>fRun fTab p w 11 an s (St T n k w os).abs ⟨doneF .next,cd p env,a,B⟩)=fun os=>some (Sh H k' w os)
noncomputable def Rn (p:Program) (env:Env) (T:Params→BT) (n k:Nat) (H:Params→Heap) (k':Nat) (l:List Stmt) (a:Pos) (N:Nat):Prop:=
 ∀ (w:World) (os:OsState),topRun treeTable p w 11 an N (St T n k w os).abs (restOf l env (cd p env) a B)=some (Sh H k' w os)
section
variable {p:Program} {env:Env} {T T':Params→BT} {H H':Params→Heap} {n k n' k' kf s N:Nat} {l r:List Stmt} {a b:Pos}
theorem Fi.run (h:Fi p env T n k H k' s a):Rn p env T n k H k' [] a s:=fun w os=>by
 refine piece_nil ?_
 rw [eRun,eTab]
 exact congrFun (h w) os
theorem Pc.run (h:Pc p env T n k T' n' k' s l a b) (q:Rn p env T' n' k' H kf r b N):Rn p env T n k H kf (l++r) a (s+N):=fun w os=>by
 refine piece_app (segRun_of ?_) (q w os)
 rw [eSegT,eTab]
 exact congrFun (h w) os
theorem top_run {s1 s2:Nat} (h1:Pre p env H' k s1 a) (h2:Blk p env H' k T n k' s2 a b) (hl:l=behindTheImports p) (q:Rn p env T n k' H kf l b N) (w:World) (os:OsState) :
  topRun treeTable p w 11 an (s1+(s2+N)) ⟨boot_heap w.params,Array.mk [],boot_drawn,boot_toks,os⟩ (topStub p)=some (Sh H kf w os):=by
 have e1:topGo treeTable p w 11 an s1 ⟨boot_heap w.params,Array.mk [],boot_drawn,boot_toks,os⟩ (topStub p)=some (Sh H' k w os,⟨denote treeTable (cd p env),cd p env,a,B⟩):=by
  rw [eGo,eTab,eDen]
  exact congrFun (h1 w) os
 have e2:segRun treeTable p w 11 an 1 s2 (Sh H' k w os) (blockOf (behindTheImports p) env (cd p env) a B)=some (.next,(St T n k' w os).abs,cd p env,b):=by
  rw [eSeg,eTab]
  exact congrFun (h2 w) os
 subst hl
 exact go_top e1 (piece_block e2 (q w os))
theorem boot_size:∀ w:World,((boot_heap w.params).isNs mainGlobals&&(Array.mk []:Array GenState).size==0,(boot_heap w.params).objs.size,(boot_heap w.params).nsMap mainGlobals "__annotations__")=(true,11,an):=by
 intro w
 kernel_rfl
theorem left_of {q:Program} {loose:List Str} {Xt:Shared→Bool} {α:Type} {Yf:Shared→α} {Ya:World→α} {M:Nat} (e:opening p=plainProg p.main.scope.names) (f:∀ s,fenceModules? p s=some s) (hN:Nat.ble 600 N=true) (le:Nat.ble M N=true)
  (run:∀ (w:World) (os:OsState),topRun treeTable p w 11 an M ⟨boot_heap w.params,Array.mk [],boot_drawn,boot_toks,os⟩ (topStub p)=some (Sh H k w os))
  (looks:∀ w:World,(fun os=>((staticsOk (importedModules p.main.body) (boot_heap w.params) (H w.params)&&namesBound p (H w.params)&&gensDone (Sh H k w os)&&laidKept (boot_heap w.params) (H w.params)),
    fSeen q loose (importedModules p.main.body) Xt true (Sh H k w os),Yf (Sh H k w os)))=fun _=>(true,openGood q loose,Ya w)):LeftO p q loose Xt Yf Ya N true:=by
 refine LeftO.of_pieces (boot_open e hN f) boot_size run le (fun w=>?_)
 have h:=looks w
 rw [← eSeen] at h
 exact h
end
end Hd
namespace K14H
open PySem PySem.W
open L2 (inClass defArgs defBody defScope)
open PySem.W.BT renaming node → bn, nil → bz
noncomputable abbrev pp:Program:=PySem.Challenge.pw_roomward_k14_machines_told
noncomputable def tp (i:Nat):Stmt:=pp.main.body.getD i (.Pass ⟨0,0,0,0⟩)
abbrev kh:=@PySem.PyData.keyHash
abbrev en (P:Params) (k:Str) (n:Nat) (v:Value):DictEntry:=⟨kh P k,.str k n,v⟩
noncomputable section
def o0 (P:Params):Obj:=⟨.type "tuple",none,.seq #[] 0,#[]⟩
def o1 (P:Params):Obj:=⟨.none,none,.fields #[],#[]⟩
def o2 (P:Params):Obj:=⟨.type "code",none,.fields #[.str "<module>" 182,.str "<module>" 183,.str "/claim/cut.py" 184,.int 1 0,.int 0 0,.int 0 0,.int 0 0,.int 0 0,.ref 11,.bool false,.int 181 0,.ref 12,.none,.none,.none,.none,.int 185 0,.int 1 0,.str "/claim/cut.py" 186],#[]⟩
def o3 (P:Params):Obj:=⟨.type "frame",none,.plain,#[(some (.ref 13)),(some (.ref 3)),(some (.ref 3)),none,(some (.str "__main__" 164)),none,(some (.ref 0))]⟩
noncomputable def Ha (P:Params):Heap:=⟨Array.mk [boot_o_0 P,boot_o_1 P,boot_o_2 P,boot_o_3 P,boot_o_4 P,boot_o_5 P,boot_o_6 P,boot_o_7 P,boot_o_8 P,boot_o_9 P,boot_o_10 P,o0 P,o1 P,o2 P,o3 P],Hd.lf⟩
noncomputable def env:Env:={ scope:=pp.main.scope,locals:=mainNs,globals:=mainNs,cells:=[],code:=.ref 13,frame:=some 14 }
theorem pre:Hd.Pre pp env Ha 187 12 ⟨0,0,0,0⟩:=by
 intro w
 kernel_rfl
abbrev be (x:Obj):BT:=bn x bz bz
noncomputable def T0 (P:Params):BT:=(bn (boot_o_0 P) (bn (boot_o_1 P) (bn (boot_o_3 P) (be (boot_o_7 P)) (be (o0 P))) (bn (boot_o_5 P) (be (boot_o_9 P)) (be (o2 P)))) (bn (boot_o_2 P) (bn (boot_o_4 P) (be (boot_o_8 P)) (be (o1 P))) (bn (boot_o_6 P) (be (boot_o_10 P)) (be (o3 P)))))
theorem blk:Hd.Blk pp env Ha 187 T0 15 187 1 ⟨0,0,0,0⟩ ⟨0,0,0,0⟩:=by
 intro w
 kernel_rfl
def o4 (P:Params):Obj:=⟨.type "dict",none,.dict #[en P "__name__" 165 (.str "roomward.errors" 194),en P "__doc__" 166 .none,en P "__package__" 167 .none,en P "__loader__" 168 (.builtin "__main__.__loader__#opaque"),en P "__spec__" 169 .none,en P "__annotations__" 170 (.ref 6),en P "__builtins__" 171 (.ref 4),en P "__file__" 173 (.str "/claim/cut.py" 172),en P "__cached__" 174 .none,en P "_wall" 193 (.ref 21),en P "WardError" 213 (.ref 31)] 11,#[]⟩
def o5 (P:Params):Obj:=⟨.none,none,.fields #[.int 1 0,.int 0 0,.ref 20,.int 5 0,.int 0 0,.ref 27],#[]⟩
def o6 (P:Params):Obj:=⟨.type "tuple",none,.seq #[] 0,#[]⟩
def o7 (P:Params):Obj:=⟨.none,none,.fields #[],#[]⟩
def o8 (P:Params):Obj:=⟨.type "tuple",none,.seq #[.str "k" 190] 0,#[]⟩
def o9 (P:Params):Obj:=⟨.type "tuple",none,.seq #[] 0,#[]⟩
def o10 (P:Params):Obj:=⟨.none,none,.func ⟨"_wall","_wall",defArgs (tp 0),.stmts (defBody (tp 0)),defScope (tp 0),0,[],.none,.none,.none,.none,none,.none,.none,0⟩,#[]⟩
def o11 (P:Params):Obj:=⟨.type "code",none,.fields #[.str "_wall" 187,.str "_wall" 188,.str "/claim/cut.py" 189,.int 1 0,.int 1 0,.int 0 0,.int 0 0,.int 3 0,.ref 15,.bool true,.int 181 0,.ref 16,.none,.ref 17,.ref 18,.ref 19,.int 191 0,.int 1 0,.str "/claim/cut.py" 192],#[]⟩
def o12 (P:Params):Obj:=⟨.type "function",none,.func ⟨"_wall","_wall",defArgs (tp 0),.stmts (defBody (tp 0)),defScope (tp 0),3,[],.none,.none,.none,.str "__main__" 164,none,.ref 20,.none,0⟩,#[]⟩
def o13 (P:Params):Obj:=⟨.type "tuple",none,.seq #[.type "ValueError"] 0,#[]⟩
def o14 (P:Params):Obj:=⟨.type "builtin_function_or_method",none,.fields #[.builtin "type.__prepare__",.type "type"],#[]⟩
def o15 (P:Params):Obj:=⟨.type "dict",none,.dict #[en P "__module__" 203 (.str "roomward.errors" 194),en P "__qualname__" 205 (.str "WardError" 204),en P "__firstlineno__" 207 (.int 5 206),en P "__static_attributes__" 208 (.ref 29)] 4,#[]⟩
def o16 (P:Params):Obj:=⟨.type "tuple",none,.seq #[] 0,#[]⟩
def o17 (P:Params):Obj:=⟨.none,none,.fields #[],#[]⟩
def o18 (P:Params):Obj:=⟨.type "code",none,.fields #[.str "WardError" 198,.str "WardError" 199,.str "/claim/cut.py" 200,.int 5 0,.int 0 0,.int 0 0,.int 0 0,.int 0 0,.ref 25,.bool false,.int 181 0,.ref 26,.none,.none,.none,.none,.int 201 0,.int 5 0,.str "/claim/cut.py" 202],#[]⟩
def o19 (P:Params):Obj:=⟨.type "frame",none,.plain,#[(some (.ref 27)),(some (.ref 3)),(some (.ref 24)),none,(some (.str "roomward.errors" 194)),none,(some (.ref 0))]⟩
def o20 (P:Params):Obj:=⟨.type "tuple",none,.seq #[] 0,#[]⟩
def o21 (P:Params):Obj:=⟨.type "dict",none,.dict #[en P "__module__" 203 (.str "roomward.errors" 194),en P "__firstlineno__" 207 (.int 5 206),en P "__static_attributes__" 208 (.ref 29),en P "__weakref__" 210 (.ref 32),en P "__doc__" 211 .none] 3,#[]⟩
def o22 (P:Params):Obj:=⟨.type "type",none,.cls ⟨"WardError",[.type "ValueError"],[.ref 31,.type "ValueError",.type "Exception",.type "BaseException",.type "object"],30,"WardError",true,[],[],false,none,false⟩,#[(some (.ref 22)),none,(some (.str "WardError" 196)),(some (.str "WardError" 204)),(some (.builtin "ValueError.__new__")),(some (.bool true))]⟩
def o23 (P:Params):Obj:=⟨.type "getset_descriptor",none,.fields #[.str "__weakref__" 209,.ref 31,.builtin "ExceptionGroup.__weakref__",.none],#[]⟩
def o24 (P:Params):Obj:=⟨.type "super",none,.fields #[.ref 31,.ref 31,.ref 31],#[]⟩
def o25 (P:Params):Obj:=⟨.type "builtin_function_or_method",none,.fields #[.builtin "object.__init_subclass__",.ref 31],#[]⟩
noncomputable def T1 (P:Params):BT:=(bn (boot_o_0 P) (bn (boot_o_1 P) (bn (o4 P) (bn (boot_o_7 P) (bn (o6 P) (be (o22 P)) bz) (be (o14 P))) (bn (o0 P) (be (o10 P)) (be (o18 P)))) (bn (boot_o_5 P) (bn (boot_o_9 P) (bn (o8 P) (be (o24 P)) bz) (be (o16 P))) (bn (o2 P) (be (o12 P)) (be (o20 P))))) (bn (boot_o_2 P) (bn (boot_o_4 P) (bn (boot_o_8 P) (bn (o7 P) (be (o23 P)) bz) (be (o15 P))) (bn (o5 P) (be (o11 P)) (be (o19 P)))) (bn (boot_o_6 P) (bn (boot_o_10 P) (bn (o9 P) (be (o25 P)) bz) (be (o17 P))) (bn (o3 P) (be (o13 P)) (be (o21 P))))))
theorem pc1:Hd.Pc pp env T0 15 187 T1 35 214 225 [tp 0,tp 1,tp 2] ⟨0,0,0,0⟩ ⟨5,0,6,8⟩:=by
 intro w
 kernel_rfl
def o26 (P:Params):Obj:=⟨.type "dict",none,.dict #[en P "__name__" 165 (.str "roomward.errors" 194),en P "__doc__" 166 .none,en P "__package__" 167 .none,en P "__loader__" 168 (.builtin "__main__.__loader__#opaque"),en P "__spec__" 169 .none,en P "__annotations__" 170 (.ref 6),en P "__builtins__" 171 (.ref 4),en P "__file__" 173 (.str "/claim/cut.py" 172),en P "__cached__" 174 .none,en P "_wall" 193 (.ref 21),en P "WardError" 213 (.ref 31),en P "NoName" 229 (.ref 44)] 12,#[]⟩
def o27 (P:Params):Obj:=⟨.none,none,.fields #[.int 1 0,.int 0 0,.ref 20,.int 5 0,.int 0 0,.ref 27,.int 7 0,.int 0 0,.ref 40],#[]⟩
def o28 (P:Params):Obj:=⟨.type "type",none,.cls ⟨"WardError",[.type "ValueError"],[.ref 31,.type "ValueError",.type "Exception",.type "BaseException",.type "object"],30,"WardError",true,[],[.ref 44],false,none,false⟩,#[(some (.ref 22)),none,(some (.str "WardError" 196)),(some (.str "WardError" 204)),(some (.builtin "ValueError.__new__")),(some (.bool true))]⟩
def o29 (P:Params):Obj:=⟨.type "tuple",none,.seq #[.ref 31] 0,#[]⟩
def o30 (P:Params):Obj:=⟨.type "builtin_function_or_method",none,.fields #[.builtin "type.__prepare__",.type "type"],#[]⟩
def o31 (P:Params):Obj:=⟨.type "dict",none,.dict #[en P "__module__" 221 (.str "roomward.errors" 194),en P "__qualname__" 223 (.str "NoName" 222),en P "__firstlineno__" 225 (.int 7 224),en P "__static_attributes__" 226 (.ref 42)] 4,#[]⟩
def o32 (P:Params):Obj:=⟨.type "tuple",none,.seq #[] 0,#[]⟩
def o33 (P:Params):Obj:=⟨.none,none,.fields #[],#[]⟩
def o34 (P:Params):Obj:=⟨.type "code",none,.fields #[.str "NoName" 216,.str "NoName" 217,.str "/claim/cut.py" 218,.int 7 0,.int 0 0,.int 0 0,.int 0 0,.int 0 0,.ref 38,.bool false,.int 181 0,.ref 39,.none,.none,.none,.none,.int 219 0,.int 7 0,.str "/claim/cut.py" 220],#[]⟩
def o35 (P:Params):Obj:=⟨.type "frame",none,.plain,#[(some (.ref 40)),(some (.ref 3)),(some (.ref 37)),none,(some (.str "roomward.errors" 194)),none,(some (.ref 0))]⟩
def o36 (P:Params):Obj:=⟨.type "tuple",none,.seq #[] 0,#[]⟩
def o37 (P:Params):Obj:=⟨.type "dict",none,.dict #[en P "__module__" 221 (.str "roomward.errors" 194),en P "__firstlineno__" 225 (.int 7 224),en P "__static_attributes__" 226 (.ref 42),en P "__doc__" 227 .none] 2,#[]⟩
def o38 (P:Params):Obj:=⟨.type "type",none,.cls ⟨"NoName",[.ref 31],[.ref 44,.ref 31,.type "ValueError",.type "Exception",.type "BaseException",.type "object"],43,"NoName",true,[],[],false,none,false⟩,#[(some (.ref 35)),none,(some (.str "NoName" 214)),(some (.str "NoName" 222)),(some (.builtin "ValueError.__new__")),(some (.bool true))]⟩
def o39 (P:Params):Obj:=⟨.type "super",none,.fields #[.ref 44,.ref 44,.ref 44],#[]⟩
def o40 (P:Params):Obj:=⟨.type "builtin_function_or_method",none,.fields #[.builtin "object.__init_subclass__",.ref 44],#[]⟩
noncomputable def T2 (P:Params):BT:=(bn (boot_o_0 P) (bn (boot_o_1 P) (bn (o26 P) (bn (boot_o_7 P) (bn (o6 P) (be (o28 P)) bz) (bn (o14 P) (be (o33 P)) bz)) (bn (o0 P) (bn (o10 P) (be (o29 P)) bz) (bn (o18 P) (be (o37 P)) bz))) (bn (boot_o_5 P) (bn (boot_o_9 P) (bn (o8 P) (be (o24 P)) bz) (bn (o16 P) (be (o35 P)) bz)) (bn (o2 P) (bn (o12 P) (be (o31 P)) bz) (bn (o20 P) (be (o39 P)) bz)))) (bn (boot_o_2 P) (bn (boot_o_4 P) (bn (boot_o_8 P) (bn (o7 P) (be (o23 P)) bz) (bn (o15 P) (be (o34 P)) bz)) (bn (o27 P) (bn (o11 P) (be (o30 P)) bz) (bn (o19 P) (be (o38 P)) bz))) (bn (boot_o_6 P) (bn (boot_o_10 P) (bn (o9 P) (be (o25 P)) bz) (bn (o17 P) (be (o36 P)) bz)) (bn (o3 P) (bn (o13 P) (be (o32 P)) bz) (bn (o21 P) (be (o40 P)) bz)))))
theorem pc2:Hd.Pc pp env T1 35 214 T2 47 230 214 [tp 3] ⟨5,0,6,8⟩ ⟨7,0,8,8⟩:=by
 intro w
 kernel_rfl
def o41 (P:Params):Obj:=⟨.type "dict",none,.dict #[en P "__name__" 165 (.str "roomward.errors" 194),en P "__doc__" 166 .none,en P "__package__" 167 .none,en P "__loader__" 168 (.builtin "__main__.__loader__#opaque"),en P "__spec__" 169 .none,en P "__annotations__" 170 (.ref 6),en P "__builtins__" 171 (.ref 4),en P "__file__" 173 (.str "/claim/cut.py" 172),en P "__cached__" 174 .none,en P "_wall" 193 (.ref 21),en P "WardError" 213 (.ref 31),en P "NoName" 229 (.ref 44),en P "NoDeed" 245 (.ref 56)] 13,#[]⟩
def o42 (P:Params):Obj:=⟨.none,none,.fields #[.int 1 0,.int 0 0,.ref 20,.int 5 0,.int 0 0,.ref 27,.int 7 0,.int 0 0,.ref 40,.int 9 0,.int 0 0,.ref 52],#[]⟩
def o43 (P:Params):Obj:=⟨.type "type",none,.cls ⟨"WardError",[.type "ValueError"],[.ref 31,.type "ValueError",.type "Exception",.type "BaseException",.type "object"],30,"WardError",true,[],[.ref 44,.ref 56],false,none,false⟩,#[(some (.ref 22)),none,(some (.str "WardError" 196)),(some (.str "WardError" 204)),(some (.builtin "ValueError.__new__")),(some (.bool true))]⟩
def o44 (P:Params):Obj:=⟨.type "tuple",none,.seq #[.ref 31] 0,#[]⟩
def o45 (P:Params):Obj:=⟨.type "builtin_function_or_method",none,.fields #[.builtin "type.__prepare__",.type "type"],#[]⟩
def o46 (P:Params):Obj:=⟨.type "dict",none,.dict #[en P "__module__" 237 (.str "roomward.errors" 194),en P "__qualname__" 239 (.str "NoDeed" 238),en P "__firstlineno__" 241 (.int 9 240),en P "__static_attributes__" 242 (.ref 54)] 4,#[]⟩
def o47 (P:Params):Obj:=⟨.type "tuple",none,.seq #[] 0,#[]⟩
def o48 (P:Params):Obj:=⟨.none,none,.fields #[],#[]⟩
def o49 (P:Params):Obj:=⟨.type "code",none,.fields #[.str "NoDeed" 232,.str "NoDeed" 233,.str "/claim/cut.py" 234,.int 9 0,.int 0 0,.int 0 0,.int 0 0,.int 0 0,.ref 50,.bool false,.int 181 0,.ref 51,.none,.none,.none,.none,.int 235 0,.int 9 0,.str "/claim/cut.py" 236],#[]⟩
def o50 (P:Params):Obj:=⟨.type "frame",none,.plain,#[(some (.ref 52)),(some (.ref 3)),(some (.ref 49)),none,(some (.str "roomward.errors" 194)),none,(some (.ref 0))]⟩
def o51 (P:Params):Obj:=⟨.type "tuple",none,.seq #[] 0,#[]⟩
def o52 (P:Params):Obj:=⟨.type "dict",none,.dict #[en P "__module__" 237 (.str "roomward.errors" 194),en P "__firstlineno__" 241 (.int 9 240),en P "__static_attributes__" 242 (.ref 54),en P "__doc__" 243 .none] 2,#[]⟩
def o53 (P:Params):Obj:=⟨.type "type",none,.cls ⟨"NoDeed",[.ref 31],[.ref 56,.ref 31,.type "ValueError",.type "Exception",.type "BaseException",.type "object"],55,"NoDeed",true,[],[],false,none,false⟩,#[(some (.ref 47)),none,(some (.str "NoDeed" 230)),(some (.str "NoDeed" 238)),(some (.builtin "ValueError.__new__")),(some (.bool true))]⟩
def o54 (P:Params):Obj:=⟨.type "super",none,.fields #[.ref 56,.ref 56,.ref 56],#[]⟩
def o55 (P:Params):Obj:=⟨.type "builtin_function_or_method",none,.fields #[.builtin "object.__init_subclass__",.ref 56],#[]⟩
noncomputable def T3 (P:Params):BT:=(bn (boot_o_0 P) (bn (boot_o_1 P) (bn (o41 P) (bn (boot_o_7 P) (bn (o6 P) (be (o43 P)) (be (o44 P))) (bn (o14 P) (be (o33 P)) (be (o52 P)))) (bn (o0 P) (bn (o10 P) (be (o29 P)) (be (o48 P))) (bn (o18 P) (be (o37 P)) bz))) (bn (boot_o_5 P) (bn (boot_o_9 P) (bn (o8 P) (be (o24 P)) (be (o46 P))) (bn (o16 P) (be (o35 P)) (be (o54 P)))) (bn (o2 P) (bn (o12 P) (be (o31 P)) (be (o50 P))) (bn (o20 P) (be (o39 P)) bz)))) (bn (boot_o_2 P) (bn (boot_o_4 P) (bn (boot_o_8 P) (bn (o7 P) (be (o23 P)) (be (o45 P))) (bn (o15 P) (be (o34 P)) (be (o53 P)))) (bn (o42 P) (bn (o11 P) (be (o30 P)) (be (o49 P))) (bn (o19 P) (be (o38 P)) bz))) (bn (boot_o_6 P) (bn (boot_o_10 P) (bn (o9 P) (be (o25 P)) (be (o47 P))) (bn (o17 P) (be (o36 P)) (be (o55 P)))) (bn (o3 P) (bn (o13 P) (be (o32 P)) (be (o51 P))) (bn (o21 P) (be (o40 P)) bz)))))
theorem pc3:Hd.Pc pp env T2 47 230 T3 59 246 214 [tp 4] ⟨7,0,8,8⟩ ⟨9,0,10,8⟩:=by
 intro w
 kernel_rfl
def o56 (P:Params):Obj:=⟨.type "dict",none,.dict #[en P "__name__" 165 (.str "roomward.errors" 194),en P "__doc__" 166 .none,en P "__package__" 167 .none,en P "__loader__" 168 (.builtin "__main__.__loader__#opaque"),en P "__spec__" 169 .none,en P "__annotations__" 170 (.ref 6),en P "__builtins__" 171 (.ref 4),en P "__file__" 173 (.str "/claim/cut.py" 172),en P "__cached__" 174 .none,en P "_wall" 193 (.ref 21),en P "WardError" 213 (.ref 31),en P "NoName" 229 (.ref 44),en P "NoDeed" 245 (.ref 56),en P "NoRoom" 261 (.ref 68)] 14,#[]⟩
def o57 (P:Params):Obj:=⟨.none,none,.fields #[.int 1 0,.int 0 0,.ref 20,.int 5 0,.int 0 0,.ref 27,.int 7 0,.int 0 0,.ref 40,.int 9 0,.int 0 0,.ref 52,.int 11 0,.int 0 0,.ref 64],#[]⟩
def o58 (P:Params):Obj:=⟨.type "type",none,.cls ⟨"WardError",[.type "ValueError"],[.ref 31,.type "ValueError",.type "Exception",.type "BaseException",.type "object"],30,"WardError",true,[],[.ref 44,.ref 56,.ref 68],false,none,false⟩,#[(some (.ref 22)),none,(some (.str "WardError" 196)),(some (.str "WardError" 204)),(some (.builtin "ValueError.__new__")),(some (.bool true))]⟩
def o59 (P:Params):Obj:=⟨.type "tuple",none,.seq #[.ref 31] 0,#[]⟩
def o60 (P:Params):Obj:=⟨.type "builtin_function_or_method",none,.fields #[.builtin "type.__prepare__",.type "type"],#[]⟩
def o61 (P:Params):Obj:=⟨.type "dict",none,.dict #[en P "__module__" 253 (.str "roomward.errors" 194),en P "__qualname__" 255 (.str "NoRoom" 254),en P "__firstlineno__" 257 (.int 11 256),en P "__static_attributes__" 258 (.ref 66)] 4,#[]⟩
def o62 (P:Params):Obj:=⟨.type "tuple",none,.seq #[] 0,#[]⟩
def o63 (P:Params):Obj:=⟨.none,none,.fields #[],#[]⟩
def o64 (P:Params):Obj:=⟨.type "code",none,.fields #[.str "NoRoom" 248,.str "NoRoom" 249,.str "/claim/cut.py" 250,.int 11 0,.int 0 0,.int 0 0,.int 0 0,.int 0 0,.ref 62,.bool false,.int 181 0,.ref 63,.none,.none,.none,.none,.int 251 0,.int 11 0,.str "/claim/cut.py" 252],#[]⟩
def o65 (P:Params):Obj:=⟨.type "frame",none,.plain,#[(some (.ref 64)),(some (.ref 3)),(some (.ref 61)),none,(some (.str "roomward.errors" 194)),none,(some (.ref 0))]⟩
def o66 (P:Params):Obj:=⟨.type "tuple",none,.seq #[] 0,#[]⟩
def o67 (P:Params):Obj:=⟨.type "dict",none,.dict #[en P "__module__" 253 (.str "roomward.errors" 194),en P "__firstlineno__" 257 (.int 11 256),en P "__static_attributes__" 258 (.ref 66),en P "__doc__" 259 .none] 2,#[]⟩
def o68 (P:Params):Obj:=⟨.type "type",none,.cls ⟨"NoRoom",[.ref 31],[.ref 68,.ref 31,.type "ValueError",.type "Exception",.type "BaseException",.type "object"],67,"NoRoom",true,[],[],false,none,false⟩,#[(some (.ref 59)),none,(some (.str "NoRoom" 246)),(some (.str "NoRoom" 254)),(some (.builtin "ValueError.__new__")),(some (.bool true))]⟩
def o69 (P:Params):Obj:=⟨.type "super",none,.fields #[.ref 68,.ref 68,.ref 68],#[]⟩
def o70 (P:Params):Obj:=⟨.type "builtin_function_or_method",none,.fields #[.builtin "object.__init_subclass__",.ref 68],#[]⟩
noncomputable def T4 (P:Params):BT:=(bn (boot_o_0 P) (bn (boot_o_1 P) (bn (o56 P) (bn (boot_o_7 P) (bn (o6 P) (bn (o58 P) (be (o63 P)) bz) (be (o44 P))) (bn (o14 P) (be (o33 P)) (be (o52 P)))) (bn (o0 P) (bn (o10 P) (bn (o29 P) (be (o67 P)) bz) (be (o48 P))) (bn (o18 P) (be (o37 P)) (be (o59 P))))) (bn (boot_o_5 P) (bn (boot_o_9 P) (bn (o8 P) (bn (o24 P) (be (o65 P)) bz) (be (o46 P))) (bn (o16 P) (be (o35 P)) (be (o54 P)))) (bn (o2 P) (bn (o12 P) (bn (o31 P) (be (o69 P)) bz) (be (o50 P))) (bn (o20 P) (be (o39 P)) (be (o61 P)))))) (bn (boot_o_2 P) (bn (boot_o_4 P) (bn (boot_o_8 P) (bn (o7 P) (bn (o23 P) (be (o64 P)) bz) (be (o45 P))) (bn (o15 P) (be (o34 P)) (be (o53 P)))) (bn (o57 P) (bn (o11 P) (bn (o30 P) (be (o68 P)) bz) (be (o49 P))) (bn (o19 P) (be (o38 P)) (be (o60 P))))) (bn (boot_o_6 P) (bn (boot_o_10 P) (bn (o9 P) (bn (o25 P) (be (o66 P)) bz) (be (o47 P))) (bn (o17 P) (be (o36 P)) (be (o55 P)))) (bn (o3 P) (bn (o13 P) (bn (o32 P) (be (o70 P)) bz) (be (o51 P))) (bn (o21 P) (be (o40 P)) (be (o62 P)))))))
theorem pc4:Hd.Pc pp env T3 59 246 T4 71 262 214 [tp 5] ⟨9,0,10,8⟩ ⟨11,0,12,8⟩:=by
 intro w
 kernel_rfl
def o71 (P:Params):Obj:=⟨.type "dict",none,.dict #[en P "__name__" 165 (.str "roomward.errors" 194),en P "__doc__" 166 .none,en P "__package__" 167 .none,en P "__loader__" 168 (.builtin "__main__.__loader__#opaque"),en P "__spec__" 169 .none,en P "__annotations__" 170 (.ref 6),en P "__builtins__" 171 (.ref 4),en P "__file__" 173 (.str "/claim/cut.py" 172),en P "__cached__" 174 .none,en P "_wall" 193 (.ref 21),en P "WardError" 213 (.ref 31),en P "NoName" 229 (.ref 44),en P "NoDeed" 245 (.ref 56),en P "NoRoom" 261 (.ref 68),en P "TwiceTold" 277 (.ref 80)] 15,#[]⟩
def o72 (P:Params):Obj:=⟨.none,none,.fields #[.int 1 0,.int 0 0,.ref 20,.int 5 0,.int 0 0,.ref 27,.int 7 0,.int 0 0,.ref 40,.int 9 0,.int 0 0,.ref 52,.int 11 0,.int 0 0,.ref 64,.int 13 0,.int 0 0,.ref 76],#[]⟩
def o73 (P:Params):Obj:=⟨.type "type",none,.cls ⟨"WardError",[.type "ValueError"],[.ref 31,.type "ValueError",.type "Exception",.type "BaseException",.type "object"],30,"WardError",true,[],[.ref 44,.ref 56,.ref 68,.ref 80],false,none,false⟩,#[(some (.ref 22)),none,(some (.str "WardError" 196)),(some (.str "WardError" 204)),(some (.builtin "ValueError.__new__")),(some (.bool true))]⟩
def o74 (P:Params):Obj:=⟨.type "tuple",none,.seq #[.ref 31] 0,#[]⟩
def o75 (P:Params):Obj:=⟨.type "builtin_function_or_method",none,.fields #[.builtin "type.__prepare__",.type "type"],#[]⟩
def o76 (P:Params):Obj:=⟨.type "dict",none,.dict #[en P "__module__" 269 (.str "roomward.errors" 194),en P "__qualname__" 271 (.str "TwiceTold" 270),en P "__firstlineno__" 273 (.int 13 272),en P "__static_attributes__" 274 (.ref 78)] 4,#[]⟩
def o77 (P:Params):Obj:=⟨.type "tuple",none,.seq #[] 0,#[]⟩
def o78 (P:Params):Obj:=⟨.none,none,.fields #[],#[]⟩
def o79 (P:Params):Obj:=⟨.type "code",none,.fields #[.str "TwiceTold" 264,.str "TwiceTold" 265,.str "/claim/cut.py" 266,.int 13 0,.int 0 0,.int 0 0,.int 0 0,.int 0 0,.ref 74,.bool false,.int 181 0,.ref 75,.none,.none,.none,.none,.int 267 0,.int 13 0,.str "/claim/cut.py" 268],#[]⟩
def o80 (P:Params):Obj:=⟨.type "frame",none,.plain,#[(some (.ref 76)),(some (.ref 3)),(some (.ref 73)),none,(some (.str "roomward.errors" 194)),none,(some (.ref 0))]⟩
def o81 (P:Params):Obj:=⟨.type "tuple",none,.seq #[] 0,#[]⟩
def o82 (P:Params):Obj:=⟨.type "dict",none,.dict #[en P "__module__" 269 (.str "roomward.errors" 194),en P "__firstlineno__" 273 (.int 13 272),en P "__static_attributes__" 274 (.ref 78),en P "__doc__" 275 .none] 2,#[]⟩
def o83 (P:Params):Obj:=⟨.type "type",none,.cls ⟨"TwiceTold",[.ref 31],[.ref 80,.ref 31,.type "ValueError",.type "Exception",.type "BaseException",.type "object"],79,"TwiceTold",true,[],[],false,none,false⟩,#[(some (.ref 71)),none,(some (.str "TwiceTold" 262)),(some (.str "TwiceTold" 270)),(some (.builtin "ValueError.__new__")),(some (.bool true))]⟩
def o84 (P:Params):Obj:=⟨.type "super",none,.fields #[.ref 80,.ref 80,.ref 80],#[]⟩
def o85 (P:Params):Obj:=⟨.type "builtin_function_or_method",none,.fields #[.builtin "object.__init_subclass__",.ref 80],#[]⟩
noncomputable def T5 (P:Params):BT:=(bn (boot_o_0 P) (bn (boot_o_1 P) (bn (o71 P) (bn (boot_o_7 P) (bn (o6 P) (bn (o73 P) (be (o63 P)) bz) (bn (o44 P) (be (o82 P)) bz)) (bn (o14 P) (bn (o33 P) (be (o74 P)) bz) (be (o52 P)))) (bn (o0 P) (bn (o10 P) (bn (o29 P) (be (o67 P)) bz) (be (o48 P))) (bn (o18 P) (bn (o37 P) (be (o78 P)) bz) (be (o59 P))))) (bn (boot_o_5 P) (bn (boot_o_9 P) (bn (o8 P) (bn (o24 P) (be (o65 P)) bz) (bn (o46 P) (be (o84 P)) bz)) (bn (o16 P) (bn (o35 P) (be (o76 P)) bz) (be (o54 P)))) (bn (o2 P) (bn (o12 P) (bn (o31 P) (be (o69 P)) bz) (be (o50 P))) (bn (o20 P) (bn (o39 P) (be (o80 P)) bz) (be (o61 P)))))) (bn (boot_o_2 P) (bn (boot_o_4 P) (bn (boot_o_8 P) (bn (o7 P) (bn (o23 P) (be (o64 P)) bz) (bn (o45 P) (be (o83 P)) bz)) (bn (o15 P) (bn (o34 P) (be (o75 P)) bz) (be (o53 P)))) (bn (o72 P) (bn (o11 P) (bn (o30 P) (be (o68 P)) bz) (be (o49 P))) (bn (o19 P) (bn (o38 P) (be (o79 P)) bz) (be (o60 P))))) (bn (boot_o_6 P) (bn (boot_o_10 P) (bn (o9 P) (bn (o25 P) (be (o66 P)) bz) (bn (o47 P) (be (o85 P)) bz)) (bn (o17 P) (bn (o36 P) (be (o77 P)) bz) (be (o55 P)))) (bn (o3 P) (bn (o13 P) (bn (o32 P) (be (o70 P)) bz) (be (o51 P))) (bn (o21 P) (bn (o40 P) (be (o81 P)) bz) (be (o62 P)))))))
theorem pc5:Hd.Pc pp env T4 71 262 T5 83 278 214 [tp 6] ⟨11,0,12,8⟩ ⟨13,0,14,8⟩:=by
 intro w
 kernel_rfl
def o86 (P:Params):Obj:=⟨.type "dict",none,.dict #[en P "__name__" 165 (.str "roomward.errors" 194),en P "__doc__" 166 .none,en P "__package__" 167 .none,en P "__loader__" 168 (.builtin "__main__.__loader__#opaque"),en P "__spec__" 169 .none,en P "__annotations__" 170 (.ref 6),en P "__builtins__" 171 (.ref 4),en P "__file__" 173 (.str "/claim/cut.py" 172),en P "__cached__" 174 .none,en P "_wall" 193 (.ref 21),en P "WardError" 213 (.ref 31),en P "NoName" 229 (.ref 44),en P "NoDeed" 245 (.ref 56),en P "NoRoom" 261 (.ref 68),en P "TwiceTold" 277 (.ref 80),en P "TooMany" 293 (.ref 92)] 16,#[]⟩
def o87 (P:Params):Obj:=⟨.none,none,.fields #[.int 1 0,.int 0 0,.ref 20,.int 5 0,.int 0 0,.ref 27,.int 7 0,.int 0 0,.ref 40,.int 9 0,.int 0 0,.ref 52,.int 11 0,.int 0 0,.ref 64,.int 13 0,.int 0 0,.ref 76,.int 15 0,.int 0 0,.ref 88],#[]⟩
def o88 (P:Params):Obj:=⟨.type "type",none,.cls ⟨"WardError",[.type "ValueError"],[.ref 31,.type "ValueError",.type "Exception",.type "BaseException",.type "object"],30,"WardError",true,[],[.ref 44,.ref 56,.ref 68,.ref 80,.ref 92],false,none,false⟩,#[(some (.ref 22)),none,(some (.str "WardError" 196)),(some (.str "WardError" 204)),(some (.builtin "ValueError.__new__")),(some (.bool true))]⟩
def o89 (P:Params):Obj:=⟨.type "tuple",none,.seq #[.ref 31] 0,#[]⟩
def o90 (P:Params):Obj:=⟨.type "builtin_function_or_method",none,.fields #[.builtin "type.__prepare__",.type "type"],#[]⟩
def o91 (P:Params):Obj:=⟨.type "dict",none,.dict #[en P "__module__" 285 (.str "roomward.errors" 194),en P "__qualname__" 287 (.str "TooMany" 286),en P "__firstlineno__" 289 (.int 15 288),en P "__static_attributes__" 290 (.ref 90)] 4,#[]⟩
def o92 (P:Params):Obj:=⟨.type "tuple",none,.seq #[] 0,#[]⟩
def o93 (P:Params):Obj:=⟨.none,none,.fields #[],#[]⟩
def o94 (P:Params):Obj:=⟨.type "code",none,.fields #[.str "TooMany" 280,.str "TooMany" 281,.str "/claim/cut.py" 282,.int 15 0,.int 0 0,.int 0 0,.int 0 0,.int 0 0,.ref 86,.bool false,.int 181 0,.ref 87,.none,.none,.none,.none,.int 283 0,.int 15 0,.str "/claim/cut.py" 284],#[]⟩
def o95 (P:Params):Obj:=⟨.type "frame",none,.plain,#[(some (.ref 88)),(some (.ref 3)),(some (.ref 85)),none,(some (.str "roomward.errors" 194)),none,(some (.ref 0))]⟩
def o96 (P:Params):Obj:=⟨.type "tuple",none,.seq #[] 0,#[]⟩
def o97 (P:Params):Obj:=⟨.type "dict",none,.dict #[en P "__module__" 285 (.str "roomward.errors" 194),en P "__firstlineno__" 289 (.int 15 288),en P "__static_attributes__" 290 (.ref 90),en P "__doc__" 291 .none] 2,#[]⟩
def o98 (P:Params):Obj:=⟨.type "type",none,.cls ⟨"TooMany",[.ref 31],[.ref 92,.ref 31,.type "ValueError",.type "Exception",.type "BaseException",.type "object"],91,"TooMany",true,[],[],false,none,false⟩,#[(some (.ref 83)),none,(some (.str "TooMany" 278)),(some (.str "TooMany" 286)),(some (.builtin "ValueError.__new__")),(some (.bool true))]⟩
def o99 (P:Params):Obj:=⟨.type "super",none,.fields #[.ref 92,.ref 92,.ref 92],#[]⟩
def o100 (P:Params):Obj:=⟨.type "builtin_function_or_method",none,.fields #[.builtin "object.__init_subclass__",.ref 92],#[]⟩
noncomputable def T6 (P:Params):BT:=(bn (boot_o_0 P) (bn (boot_o_1 P) (bn (o86 P) (bn (boot_o_7 P) (bn (o6 P) (bn (o88 P) (be (o63 P)) bz) (bn (o44 P) (be (o82 P)) bz)) (bn (o14 P) (bn (o33 P) (be (o74 P)) bz) (bn (o52 P) (be (o93 P)) bz))) (bn (o0 P) (bn (o10 P) (bn (o29 P) (be (o67 P)) bz) (bn (o48 P) (be (o89 P)) bz)) (bn (o18 P) (bn (o37 P) (be (o78 P)) bz) (bn (o59 P) (be (o97 P)) bz)))) (bn (boot_o_5 P) (bn (boot_o_9 P) (bn (o8 P) (bn (o24 P) (be (o65 P)) bz) (bn (o46 P) (be (o84 P)) bz)) (bn (o16 P) (bn (o35 P) (be (o76 P)) bz) (bn (o54 P) (be (o95 P)) bz))) (bn (o2 P) (bn (o12 P) (bn (o31 P) (be (o69 P)) bz) (bn (o50 P) (be (o91 P)) bz)) (bn (o20 P) (bn (o39 P) (be (o80 P)) bz) (bn (o61 P) (be (o99 P)) bz))))) (bn (boot_o_2 P) (bn (boot_o_4 P) (bn (boot_o_8 P) (bn (o7 P) (bn (o23 P) (be (o64 P)) bz) (bn (o45 P) (be (o83 P)) bz)) (bn (o15 P) (bn (o34 P) (be (o75 P)) bz) (bn (o53 P) (be (o94 P)) bz))) (bn (o87 P) (bn (o11 P) (bn (o30 P) (be (o68 P)) bz) (bn (o49 P) (be (o90 P)) bz)) (bn (o19 P) (bn (o38 P) (be (o79 P)) bz) (bn (o60 P) (be (o98 P)) bz)))) (bn (boot_o_6 P) (bn (boot_o_10 P) (bn (o9 P) (bn (o25 P) (be (o66 P)) bz) (bn (o47 P) (be (o85 P)) bz)) (bn (o17 P) (bn (o36 P) (be (o77 P)) bz) (bn (o55 P) (be (o96 P)) bz))) (bn (o3 P) (bn (o13 P) (bn (o32 P) (be (o70 P)) bz) (bn (o51 P) (be (o92 P)) bz)) (bn (o21 P) (bn (o40 P) (be (o81 P)) bz) (bn (o62 P) (be (o100 P)) bz))))))
theorem pc6:Hd.Pc pp env T5 83 278 T6 95 294 214 [tp 7] ⟨13,0,14,8⟩ ⟨15,0,16,8⟩:=by
 intro w
 kernel_rfl
def o101 (P:Params):Obj:=⟨.type "dict",none,.dict #[en P "__name__" 165 (.str "roomward.errors" 194),en P "__doc__" 166 .none,en P "__package__" 167 .none,en P "__loader__" 168 (.builtin "__main__.__loader__#opaque"),en P "__spec__" 169 .none,en P "__annotations__" 170 (.ref 6),en P "__builtins__" 171 (.ref 4),en P "__file__" 173 (.str "/claim/cut.py" 172),en P "__cached__" 174 .none,en P "_wall" 193 (.ref 21),en P "WardError" 213 (.ref 31),en P "NoName" 229 (.ref 44),en P "NoDeed" 245 (.ref 56),en P "NoRoom" 261 (.ref 68),en P "TwiceTold" 277 (.ref 80),en P "TooMany" 293 (.ref 92),en P "NoRule" 309 (.ref 104)] 17,#[]⟩
def o102 (P:Params):Obj:=⟨.none,none,.fields #[.int 1 0,.int 0 0,.ref 20,.int 5 0,.int 0 0,.ref 27,.int 7 0,.int 0 0,.ref 40,.int 9 0,.int 0 0,.ref 52,.int 11 0,.int 0 0,.ref 64,.int 13 0,.int 0 0,.ref 76,.int 15 0,.int 0 0,.ref 88,.int 17 0,.int 0 0,.ref 100],#[]⟩
def o103 (P:Params):Obj:=⟨.type "type",none,.cls ⟨"WardError",[.type "ValueError"],[.ref 31,.type "ValueError",.type "Exception",.type "BaseException",.type "object"],30,"WardError",true,[],[.ref 44,.ref 56,.ref 68,.ref 80,.ref 92,.ref 104],false,none,false⟩,#[(some (.ref 22)),none,(some (.str "WardError" 196)),(some (.str "WardError" 204)),(some (.builtin "ValueError.__new__")),(some (.bool true))]⟩
def o104 (P:Params):Obj:=⟨.type "tuple",none,.seq #[.ref 31] 0,#[]⟩
def o105 (P:Params):Obj:=⟨.type "builtin_function_or_method",none,.fields #[.builtin "type.__prepare__",.type "type"],#[]⟩
def o106 (P:Params):Obj:=⟨.type "dict",none,.dict #[en P "__module__" 301 (.str "roomward.errors" 194),en P "__qualname__" 303 (.str "NoRule" 302),en P "__firstlineno__" 305 (.int 17 304),en P "__static_attributes__" 306 (.ref 102)] 4,#[]⟩
def o107 (P:Params):Obj:=⟨.type "tuple",none,.seq #[] 0,#[]⟩
def o108 (P:Params):Obj:=⟨.none,none,.fields #[],#[]⟩
def o109 (P:Params):Obj:=⟨.type "code",none,.fields #[.str "NoRule" 296,.str "NoRule" 297,.str "/claim/cut.py" 298,.int 17 0,.int 0 0,.int 0 0,.int 0 0,.int 0 0,.ref 98,.bool false,.int 181 0,.ref 99,.none,.none,.none,.none,.int 299 0,.int 17 0,.str "/claim/cut.py" 300],#[]⟩
def o110 (P:Params):Obj:=⟨.type "frame",none,.plain,#[(some (.ref 100)),(some (.ref 3)),(some (.ref 97)),none,(some (.str "roomward.errors" 194)),none,(some (.ref 0))]⟩
def o111 (P:Params):Obj:=⟨.type "tuple",none,.seq #[] 0,#[]⟩
def o112 (P:Params):Obj:=⟨.type "dict",none,.dict #[en P "__module__" 301 (.str "roomward.errors" 194),en P "__firstlineno__" 305 (.int 17 304),en P "__static_attributes__" 306 (.ref 102),en P "__doc__" 307 .none] 2,#[]⟩
def o113 (P:Params):Obj:=⟨.type "type",none,.cls ⟨"NoRule",[.ref 31],[.ref 104,.ref 31,.type "ValueError",.type "Exception",.type "BaseException",.type "object"],103,"NoRule",true,[],[],false,none,false⟩,#[(some (.ref 95)),none,(some (.str "NoRule" 294)),(some (.str "NoRule" 302)),(some (.builtin "ValueError.__new__")),(some (.bool true))]⟩
def o114 (P:Params):Obj:=⟨.type "super",none,.fields #[.ref 104,.ref 104,.ref 104],#[]⟩
def o115 (P:Params):Obj:=⟨.type "builtin_function_or_method",none,.fields #[.builtin "object.__init_subclass__",.ref 104],#[]⟩
noncomputable def T7 (P:Params):BT:=(bn (boot_o_0 P) (bn (boot_o_1 P) (bn (o101 P) (bn (boot_o_7 P) (bn (o6 P) (bn (o103 P) (be (o63 P)) (be (o104 P))) (bn (o44 P) (be (o82 P)) bz)) (bn (o14 P) (bn (o33 P) (be (o74 P)) (be (o112 P))) (bn (o52 P) (be (o93 P)) bz))) (bn (o0 P) (bn (o10 P) (bn (o29 P) (be (o67 P)) (be (o108 P))) (bn (o48 P) (be (o89 P)) bz)) (bn (o18 P) (bn (o37 P) (be (o78 P)) bz) (bn (o59 P) (be (o97 P)) bz)))) (bn (boot_o_5 P) (bn (boot_o_9 P) (bn (o8 P) (bn (o24 P) (be (o65 P)) (be (o106 P))) (bn (o46 P) (be (o84 P)) bz)) (bn (o16 P) (bn (o35 P) (be (o76 P)) (be (o114 P))) (bn (o54 P) (be (o95 P)) bz))) (bn (o2 P) (bn (o12 P) (bn (o31 P) (be (o69 P)) (be (o110 P))) (bn (o50 P) (be (o91 P)) bz)) (bn (o20 P) (bn (o39 P) (be (o80 P)) bz) (bn (o61 P) (be (o99 P)) bz))))) (bn (boot_o_2 P) (bn (boot_o_4 P) (bn (boot_o_8 P) (bn (o7 P) (bn (o23 P) (be (o64 P)) (be (o105 P))) (bn (o45 P) (be (o83 P)) bz)) (bn (o15 P) (bn (o34 P) (be (o75 P)) (be (o113 P))) (bn (o53 P) (be (o94 P)) bz))) (bn (o102 P) (bn (o11 P) (bn (o30 P) (be (o68 P)) (be (o109 P))) (bn (o49 P) (be (o90 P)) bz)) (bn (o19 P) (bn (o38 P) (be (o79 P)) bz) (bn (o60 P) (be (o98 P)) bz)))) (bn (boot_o_6 P) (bn (boot_o_10 P) (bn (o9 P) (bn (o25 P) (be (o66 P)) (be (o107 P))) (bn (o47 P) (be (o85 P)) bz)) (bn (o17 P) (bn (o36 P) (be (o77 P)) (be (o115 P))) (bn (o55 P) (be (o96 P)) bz))) (bn (o3 P) (bn (o13 P) (bn (o32 P) (be (o70 P)) (be (o111 P))) (bn (o51 P) (be (o92 P)) bz)) (bn (o21 P) (bn (o40 P) (be (o81 P)) bz) (bn (o62 P) (be (o100 P)) bz))))))
theorem pc7:Hd.Pc pp env T6 95 294 T7 107 310 214 [tp 8] ⟨15,0,16,8⟩ ⟨17,0,18,8⟩:=by
 intro w
 kernel_rfl
def o116 (P:Params):Obj:=⟨.type "dict",none,.dict #[en P "__name__" 165 (.str "roomward.errors" 194),en P "__doc__" 166 .none,en P "__package__" 167 .none,en P "__loader__" 168 (.builtin "__main__.__loader__#opaque"),en P "__spec__" 169 .none,en P "__annotations__" 170 (.ref 6),en P "__builtins__" 171 (.ref 4),en P "__file__" 173 (.str "/claim/cut.py" 172),en P "__cached__" 174 .none,en P "_wall" 193 (.ref 21),en P "WardError" 213 (.ref 31),en P "NoName" 229 (.ref 44),en P "NoDeed" 245 (.ref 56),en P "NoRoom" 261 (.ref 68),en P "TwiceTold" 277 (.ref 80),en P "TooMany" 293 (.ref 92),en P "NoRule" 309 (.ref 104),en P "NoRow" 325 (.ref 116)] 18,#[]⟩
def o117 (P:Params):Obj:=⟨.none,none,.fields #[.int 1 0,.int 0 0,.ref 20,.int 5 0,.int 0 0,.ref 27,.int 7 0,.int 0 0,.ref 40,.int 9 0,.int 0 0,.ref 52,.int 11 0,.int 0 0,.ref 64,.int 13 0,.int 0 0,.ref 76,.int 15 0,.int 0 0,.ref 88,.int 17 0,.int 0 0,.ref 100,.int 19 0,.int 0 0,.ref 112],#[]⟩
def o118 (P:Params):Obj:=⟨.type "type",none,.cls ⟨"WardError",[.type "ValueError"],[.ref 31,.type "ValueError",.type "Exception",.type "BaseException",.type "object"],30,"WardError",true,[],[.ref 44,.ref 56,.ref 68,.ref 80,.ref 92,.ref 104,.ref 116],false,none,false⟩,#[(some (.ref 22)),none,(some (.str "WardError" 196)),(some (.str "WardError" 204)),(some (.builtin "ValueError.__new__")),(some (.bool true))]⟩
def o119 (P:Params):Obj:=⟨.type "tuple",none,.seq #[.ref 31] 0,#[]⟩
def o120 (P:Params):Obj:=⟨.type "builtin_function_or_method",none,.fields #[.builtin "type.__prepare__",.type "type"],#[]⟩
def o121 (P:Params):Obj:=⟨.type "dict",none,.dict #[en P "__module__" 317 (.str "roomward.errors" 194),en P "__qualname__" 319 (.str "NoRow" 318),en P "__firstlineno__" 321 (.int 19 320),en P "__static_attributes__" 322 (.ref 114)] 4,#[]⟩
def o122 (P:Params):Obj:=⟨.type "tuple",none,.seq #[] 0,#[]⟩
def o123 (P:Params):Obj:=⟨.none,none,.fields #[],#[]⟩
def o124 (P:Params):Obj:=⟨.type "code",none,.fields #[.str "NoRow" 312,.str "NoRow" 313,.str "/claim/cut.py" 314,.int 19 0,.int 0 0,.int 0 0,.int 0 0,.int 0 0,.ref 110,.bool false,.int 181 0,.ref 111,.none,.none,.none,.none,.int 315 0,.int 19 0,.str "/claim/cut.py" 316],#[]⟩
def o125 (P:Params):Obj:=⟨.type "frame",none,.plain,#[(some (.ref 112)),(some (.ref 3)),(some (.ref 109)),none,(some (.str "roomward.errors" 194)),none,(some (.ref 0))]⟩
def o126 (P:Params):Obj:=⟨.type "tuple",none,.seq #[] 0,#[]⟩
def o127 (P:Params):Obj:=⟨.type "dict",none,.dict #[en P "__module__" 317 (.str "roomward.errors" 194),en P "__firstlineno__" 321 (.int 19 320),en P "__static_attributes__" 322 (.ref 114),en P "__doc__" 323 .none] 2,#[]⟩
def o128 (P:Params):Obj:=⟨.type "type",none,.cls ⟨"NoRow",[.ref 31],[.ref 116,.ref 31,.type "ValueError",.type "Exception",.type "BaseException",.type "object"],115,"NoRow",true,[],[],false,none,false⟩,#[(some (.ref 107)),none,(some (.str "NoRow" 310)),(some (.str "NoRow" 318)),(some (.builtin "ValueError.__new__")),(some (.bool true))]⟩
def o129 (P:Params):Obj:=⟨.type "super",none,.fields #[.ref 116,.ref 116,.ref 116],#[]⟩
def o130 (P:Params):Obj:=⟨.type "builtin_function_or_method",none,.fields #[.builtin "object.__init_subclass__",.ref 116],#[]⟩
noncomputable def T8 (P:Params):BT:=(bn (boot_o_0 P) (bn (boot_o_1 P) (bn (o116 P) (bn (boot_o_7 P) (bn (o6 P) (bn (o118 P) (be (o63 P)) (be (o104 P))) (bn (o44 P) (be (o82 P)) (be (o123 P)))) (bn (o14 P) (bn (o33 P) (be (o74 P)) (be (o112 P))) (bn (o52 P) (be (o93 P)) bz))) (bn (o0 P) (bn (o10 P) (bn (o29 P) (be (o67 P)) (be (o108 P))) (bn (o48 P) (be (o89 P)) (be (o127 P)))) (bn (o18 P) (bn (o37 P) (be (o78 P)) (be (o119 P))) (bn (o59 P) (be (o97 P)) bz)))) (bn (boot_o_5 P) (bn (boot_o_9 P) (bn (o8 P) (bn (o24 P) (be (o65 P)) (be (o106 P))) (bn (o46 P) (be (o84 P)) (be (o125 P)))) (bn (o16 P) (bn (o35 P) (be (o76 P)) (be (o114 P))) (bn (o54 P) (be (o95 P)) bz))) (bn (o2 P) (bn (o12 P) (bn (o31 P) (be (o69 P)) (be (o110 P))) (bn (o50 P) (be (o91 P)) (be (o129 P)))) (bn (o20 P) (bn (o39 P) (be (o80 P)) (be (o121 P))) (bn (o61 P) (be (o99 P)) bz))))) (bn (boot_o_2 P) (bn (boot_o_4 P) (bn (boot_o_8 P) (bn (o7 P) (bn (o23 P) (be (o64 P)) (be (o105 P))) (bn (o45 P) (be (o83 P)) (be (o124 P)))) (bn (o15 P) (bn (o34 P) (be (o75 P)) (be (o113 P))) (bn (o53 P) (be (o94 P)) bz))) (bn (o117 P) (bn (o11 P) (bn (o30 P) (be (o68 P)) (be (o109 P))) (bn (o49 P) (be (o90 P)) (be (o128 P)))) (bn (o19 P) (bn (o38 P) (be (o79 P)) (be (o120 P))) (bn (o60 P) (be (o98 P)) bz)))) (bn (boot_o_6 P) (bn (boot_o_10 P) (bn (o9 P) (bn (o25 P) (be (o66 P)) (be (o107 P))) (bn (o47 P) (be (o85 P)) (be (o126 P)))) (bn (o17 P) (bn (o36 P) (be (o77 P)) (be (o115 P))) (bn (o55 P) (be (o96 P)) bz))) (bn (o3 P) (bn (o13 P) (bn (o32 P) (be (o70 P)) (be (o111 P))) (bn (o51 P) (be (o92 P)) (be (o130 P)))) (bn (o21 P) (bn (o40 P) (be (o81 P)) (be (o122 P))) (bn (o62 P) (be (o100 P)) bz))))))
theorem pc8:Hd.Pc pp env T7 107 310 T8 119 326 214 [tp 9] ⟨17,0,18,8⟩ ⟨19,0,20,8⟩:=by
 intro w
 kernel_rfl
def o131 (P:Params):Obj:=⟨.type "dict",none,.dict #[en P "__name__" 165 (.str "roomward.errors" 194),en P "__doc__" 166 .none,en P "__package__" 167 .none,en P "__loader__" 168 (.builtin "__main__.__loader__#opaque"),en P "__spec__" 169 .none,en P "__annotations__" 170 (.ref 6),en P "__builtins__" 171 (.ref 4),en P "__file__" 173 (.str "/claim/cut.py" 172),en P "__cached__" 174 .none,en P "_wall" 193 (.ref 21),en P "WardError" 213 (.ref 31),en P "NoName" 229 (.ref 44),en P "NoDeed" 245 (.ref 56),en P "NoRoom" 261 (.ref 68),en P "TwiceTold" 277 (.ref 80),en P "TooMany" 293 (.ref 92),en P "NoRule" 309 (.ref 104),en P "NoRow" 325 (.ref 116),en P "NoHold" 341 (.ref 128)] 19,#[]⟩
def o132 (P:Params):Obj:=⟨.none,none,.fields #[.int 1 0,.int 0 0,.ref 20,.int 5 0,.int 0 0,.ref 27,.int 7 0,.int 0 0,.ref 40,.int 9 0,.int 0 0,.ref 52,.int 11 0,.int 0 0,.ref 64,.int 13 0,.int 0 0,.ref 76,.int 15 0,.int 0 0,.ref 88,.int 17 0,.int 0 0,.ref 100,.int 19 0,.int 0 0,.ref 112,.int 21 0,.int 0 0,.ref 124],#[]⟩
def o133 (P:Params):Obj:=⟨.type "type",none,.cls ⟨"WardError",[.type "ValueError"],[.ref 31,.type "ValueError",.type "Exception",.type "BaseException",.type "object"],30,"WardError",true,[],[.ref 44,.ref 56,.ref 68,.ref 80,.ref 92,.ref 104,.ref 116,.ref 128],false,none,false⟩,#[(some (.ref 22)),none,(some (.str "WardError" 196)),(some (.str "WardError" 204)),(some (.builtin "ValueError.__new__")),(some (.bool true))]⟩
def o134 (P:Params):Obj:=⟨.type "tuple",none,.seq #[.ref 31] 0,#[]⟩
def o135 (P:Params):Obj:=⟨.type "builtin_function_or_method",none,.fields #[.builtin "type.__prepare__",.type "type"],#[]⟩
def o136 (P:Params):Obj:=⟨.type "dict",none,.dict #[en P "__module__" 333 (.str "roomward.errors" 194),en P "__qualname__" 335 (.str "NoHold" 334),en P "__firstlineno__" 337 (.int 21 336),en P "__static_attributes__" 338 (.ref 126)] 4,#[]⟩
def o137 (P:Params):Obj:=⟨.type "tuple",none,.seq #[] 0,#[]⟩
def o138 (P:Params):Obj:=⟨.none,none,.fields #[],#[]⟩
def o139 (P:Params):Obj:=⟨.type "code",none,.fields #[.str "NoHold" 328,.str "NoHold" 329,.str "/claim/cut.py" 330,.int 21 0,.int 0 0,.int 0 0,.int 0 0,.int 0 0,.ref 122,.bool false,.int 181 0,.ref 123,.none,.none,.none,.none,.int 331 0,.int 21 0,.str "/claim/cut.py" 332],#[]⟩
def o140 (P:Params):Obj:=⟨.type "frame",none,.plain,#[(some (.ref 124)),(some (.ref 3)),(some (.ref 121)),none,(some (.str "roomward.errors" 194)),none,(some (.ref 0))]⟩
def o141 (P:Params):Obj:=⟨.type "tuple",none,.seq #[] 0,#[]⟩
def o142 (P:Params):Obj:=⟨.type "dict",none,.dict #[en P "__module__" 333 (.str "roomward.errors" 194),en P "__firstlineno__" 337 (.int 21 336),en P "__static_attributes__" 338 (.ref 126),en P "__doc__" 339 .none] 2,#[]⟩
def o143 (P:Params):Obj:=⟨.type "type",none,.cls ⟨"NoHold",[.ref 31],[.ref 128,.ref 31,.type "ValueError",.type "Exception",.type "BaseException",.type "object"],127,"NoHold",true,[],[],false,none,false⟩,#[(some (.ref 119)),none,(some (.str "NoHold" 326)),(some (.str "NoHold" 334)),(some (.builtin "ValueError.__new__")),(some (.bool true))]⟩
def o144 (P:Params):Obj:=⟨.type "super",none,.fields #[.ref 128,.ref 128,.ref 128],#[]⟩
def o145 (P:Params):Obj:=⟨.type "builtin_function_or_method",none,.fields #[.builtin "object.__init_subclass__",.ref 128],#[]⟩
noncomputable def T9 (P:Params):BT:=(bn (boot_o_0 P) (bn (boot_o_1 P) (bn (o131 P) (bn (boot_o_7 P) (bn (o6 P) (bn (o133 P) (bn (o63 P) (be (o142 P)) bz) (be (o104 P))) (bn (o44 P) (be (o82 P)) (be (o123 P)))) (bn (o14 P) (bn (o33 P) (be (o74 P)) (be (o112 P))) (bn (o52 P) (be (o93 P)) (be (o134 P))))) (bn (o0 P) (bn (o10 P) (bn (o29 P) (be (o67 P)) (be (o108 P))) (bn (o48 P) (be (o89 P)) (be (o127 P)))) (bn (o18 P) (bn (o37 P) (be (o78 P)) (be (o119 P))) (bn (o59 P) (be (o97 P)) (be (o138 P)))))) (bn (boot_o_5 P) (bn (boot_o_9 P) (bn (o8 P) (bn (o24 P) (bn (o65 P) (be (o144 P)) bz) (be (o106 P))) (bn (o46 P) (be (o84 P)) (be (o125 P)))) (bn (o16 P) (bn (o35 P) (be (o76 P)) (be (o114 P))) (bn (o54 P) (be (o95 P)) (be (o136 P))))) (bn (o2 P) (bn (o12 P) (bn (o31 P) (be (o69 P)) (be (o110 P))) (bn (o50 P) (be (o91 P)) (be (o129 P)))) (bn (o20 P) (bn (o39 P) (be (o80 P)) (be (o121 P))) (bn (o61 P) (be (o99 P)) (be (o140 P))))))) (bn (boot_o_2 P) (bn (boot_o_4 P) (bn (boot_o_8 P) (bn (o7 P) (bn (o23 P) (bn (o64 P) (be (o143 P)) bz) (be (o105 P))) (bn (o45 P) (be (o83 P)) (be (o124 P)))) (bn (o15 P) (bn (o34 P) (be (o75 P)) (be (o113 P))) (bn (o53 P) (be (o94 P)) (be (o135 P))))) (bn (o132 P) (bn (o11 P) (bn (o30 P) (be (o68 P)) (be (o109 P))) (bn (o49 P) (be (o90 P)) (be (o128 P)))) (bn (o19 P) (bn (o38 P) (be (o79 P)) (be (o120 P))) (bn (o60 P) (be (o98 P)) (be (o139 P)))))) (bn (boot_o_6 P) (bn (boot_o_10 P) (bn (o9 P) (bn (o25 P) (bn (o66 P) (be (o145 P)) bz) (be (o107 P))) (bn (o47 P) (be (o85 P)) (be (o126 P)))) (bn (o17 P) (bn (o36 P) (be (o77 P)) (be (o115 P))) (bn (o55 P) (be (o96 P)) (be (o137 P))))) (bn (o3 P) (bn (o13 P) (bn (o32 P) (be (o70 P)) (be (o111 P))) (bn (o51 P) (be (o92 P)) (be (o130 P)))) (bn (o21 P) (bn (o40 P) (be (o81 P)) (be (o122 P))) (bn (o62 P) (be (o100 P)) (be (o141 P))))))))
theorem pc9:Hd.Pc pp env T8 119 326 T9 131 342 214 [tp 10] ⟨19,0,20,8⟩ ⟨21,0,22,8⟩:=by
 intro w
 kernel_rfl
def o146 (P:Params):Obj:=⟨.type "dict",none,.dict #[en P "__name__" 165 (.str "roomward.errors" 194),en P "__doc__" 166 .none,en P "__package__" 167 .none,en P "__loader__" 168 (.builtin "__main__.__loader__#opaque"),en P "__spec__" 169 .none,en P "__annotations__" 170 (.ref 6),en P "__builtins__" 171 (.ref 4),en P "__file__" 173 (.str "/claim/cut.py" 172),en P "__cached__" 174 .none,en P "_wall" 193 (.ref 21),en P "WardError" 213 (.ref 31),en P "NoName" 229 (.ref 44),en P "NoDeed" 245 (.ref 56),en P "NoRoom" 261 (.ref 68),en P "TwiceTold" 277 (.ref 80),en P "TooMany" 293 (.ref 92),en P "NoRule" 309 (.ref 104),en P "NoRow" 325 (.ref 116),en P "NoHold" 341 (.ref 128),en P "NoHolder" 357 (.ref 140)] 20,#[]⟩
def o147 (P:Params):Obj:=⟨.none,none,.fields #[.int 1 0,.int 0 0,.ref 20,.int 5 0,.int 0 0,.ref 27,.int 7 0,.int 0 0,.ref 40,.int 9 0,.int 0 0,.ref 52,.int 11 0,.int 0 0,.ref 64,.int 13 0,.int 0 0,.ref 76,.int 15 0,.int 0 0,.ref 88,.int 17 0,.int 0 0,.ref 100,.int 19 0,.int 0 0,.ref 112,.int 21 0,.int 0 0,.ref 124,.int 23 0,.int 0 0,.ref 136],#[]⟩
def o148 (P:Params):Obj:=⟨.type "type",none,.cls ⟨"WardError",[.type "ValueError"],[.ref 31,.type "ValueError",.type "Exception",.type "BaseException",.type "object"],30,"WardError",true,[],[.ref 44,.ref 56,.ref 68,.ref 80,.ref 92,.ref 104,.ref 116,.ref 128,.ref 140],false,none,false⟩,#[(some (.ref 22)),none,(some (.str "WardError" 196)),(some (.str "WardError" 204)),(some (.builtin "ValueError.__new__")),(some (.bool true))]⟩
def o149 (P:Params):Obj:=⟨.type "tuple",none,.seq #[.ref 31] 0,#[]⟩
def o150 (P:Params):Obj:=⟨.type "builtin_function_or_method",none,.fields #[.builtin "type.__prepare__",.type "type"],#[]⟩
def o151 (P:Params):Obj:=⟨.type "dict",none,.dict #[en P "__module__" 349 (.str "roomward.errors" 194),en P "__qualname__" 351 (.str "NoHolder" 350),en P "__firstlineno__" 353 (.int 23 352),en P "__static_attributes__" 354 (.ref 138)] 4,#[]⟩
def o152 (P:Params):Obj:=⟨.type "tuple",none,.seq #[] 0,#[]⟩
def o153 (P:Params):Obj:=⟨.none,none,.fields #[],#[]⟩
def o154 (P:Params):Obj:=⟨.type "code",none,.fields #[.str "NoHolder" 344,.str "NoHolder" 345,.str "/claim/cut.py" 346,.int 23 0,.int 0 0,.int 0 0,.int 0 0,.int 0 0,.ref 134,.bool false,.int 181 0,.ref 135,.none,.none,.none,.none,.int 347 0,.int 23 0,.str "/claim/cut.py" 348],#[]⟩
def o155 (P:Params):Obj:=⟨.type "frame",none,.plain,#[(some (.ref 136)),(some (.ref 3)),(some (.ref 133)),none,(some (.str "roomward.errors" 194)),none,(some (.ref 0))]⟩
def o156 (P:Params):Obj:=⟨.type "tuple",none,.seq #[] 0,#[]⟩
def o157 (P:Params):Obj:=⟨.type "dict",none,.dict #[en P "__module__" 349 (.str "roomward.errors" 194),en P "__firstlineno__" 353 (.int 23 352),en P "__static_attributes__" 354 (.ref 138),en P "__doc__" 355 .none] 2,#[]⟩
def o158 (P:Params):Obj:=⟨.type "type",none,.cls ⟨"NoHolder",[.ref 31],[.ref 140,.ref 31,.type "ValueError",.type "Exception",.type "BaseException",.type "object"],139,"NoHolder",true,[],[],false,none,false⟩,#[(some (.ref 131)),none,(some (.str "NoHolder" 342)),(some (.str "NoHolder" 350)),(some (.builtin "ValueError.__new__")),(some (.bool true))]⟩
def o159 (P:Params):Obj:=⟨.type "super",none,.fields #[.ref 140,.ref 140,.ref 140],#[]⟩
def o160 (P:Params):Obj:=⟨.type "builtin_function_or_method",none,.fields #[.builtin "object.__init_subclass__",.ref 140],#[]⟩
noncomputable def T10 (P:Params):BT:=(bn (boot_o_0 P) (bn (boot_o_1 P) (bn (o146 P) (bn (boot_o_7 P) (bn (o6 P) (bn (o148 P) (bn (o63 P) (be (o142 P)) bz) (be (o104 P))) (bn (o44 P) (be (o82 P)) (be (o123 P)))) (bn (o14 P) (bn (o33 P) (bn (o74 P) (be (o153 P)) bz) (be (o112 P))) (bn (o52 P) (be (o93 P)) (be (o134 P))))) (bn (o0 P) (bn (o10 P) (bn (o29 P) (bn (o67 P) (be (o149 P)) bz) (be (o108 P))) (bn (o48 P) (be (o89 P)) (be (o127 P)))) (bn (o18 P) (bn (o37 P) (bn (o78 P) (be (o157 P)) bz) (be (o119 P))) (bn (o59 P) (be (o97 P)) (be (o138 P)))))) (bn (boot_o_5 P) (bn (boot_o_9 P) (bn (o8 P) (bn (o24 P) (bn (o65 P) (be (o144 P)) bz) (be (o106 P))) (bn (o46 P) (be (o84 P)) (be (o125 P)))) (bn (o16 P) (bn (o35 P) (bn (o76 P) (be (o155 P)) bz) (be (o114 P))) (bn (o54 P) (be (o95 P)) (be (o136 P))))) (bn (o2 P) (bn (o12 P) (bn (o31 P) (bn (o69 P) (be (o151 P)) bz) (be (o110 P))) (bn (o50 P) (be (o91 P)) (be (o129 P)))) (bn (o20 P) (bn (o39 P) (bn (o80 P) (be (o159 P)) bz) (be (o121 P))) (bn (o61 P) (be (o99 P)) (be (o140 P))))))) (bn (boot_o_2 P) (bn (boot_o_4 P) (bn (boot_o_8 P) (bn (o7 P) (bn (o23 P) (bn (o64 P) (be (o143 P)) bz) (be (o105 P))) (bn (o45 P) (be (o83 P)) (be (o124 P)))) (bn (o15 P) (bn (o34 P) (bn (o75 P) (be (o154 P)) bz) (be (o113 P))) (bn (o53 P) (be (o94 P)) (be (o135 P))))) (bn (o147 P) (bn (o11 P) (bn (o30 P) (bn (o68 P) (be (o150 P)) bz) (be (o109 P))) (bn (o49 P) (be (o90 P)) (be (o128 P)))) (bn (o19 P) (bn (o38 P) (bn (o79 P) (be (o158 P)) bz) (be (o120 P))) (bn (o60 P) (be (o98 P)) (be (o139 P)))))) (bn (boot_o_6 P) (bn (boot_o_10 P) (bn (o9 P) (bn (o25 P) (bn (o66 P) (be (o145 P)) bz) (be (o107 P))) (bn (o47 P) (be (o85 P)) (be (o126 P)))) (bn (o17 P) (bn (o36 P) (bn (o77 P) (be (o156 P)) bz) (be (o115 P))) (bn (o55 P) (be (o96 P)) (be (o137 P))))) (bn (o3 P) (bn (o13 P) (bn (o32 P) (bn (o70 P) (be (o152 P)) bz) (be (o111 P))) (bn (o51 P) (be (o92 P)) (be (o130 P)))) (bn (o21 P) (bn (o40 P) (bn (o81 P) (be (o160 P)) bz) (be (o122 P))) (bn (o62 P) (be (o100 P)) (be (o141 P))))))))
theorem pc10:Hd.Pc pp env T9 131 342 T10 143 358 214 [tp 11] ⟨21,0,22,8⟩ ⟨23,0,24,8⟩:=by
 intro w
 kernel_rfl
def o161 (P:Params):Obj:=⟨.type "dict",none,.dict #[en P "__name__" 165 (.str "roomward.errors" 194),en P "__doc__" 166 .none,en P "__package__" 167 .none,en P "__loader__" 168 (.builtin "__main__.__loader__#opaque"),en P "__spec__" 169 .none,en P "__annotations__" 170 (.ref 6),en P "__builtins__" 171 (.ref 4),en P "__file__" 173 (.str "/claim/cut.py" 172),en P "__cached__" 174 .none,en P "_wall" 193 (.ref 21),en P "WardError" 213 (.ref 31),en P "NoName" 229 (.ref 44),en P "NoDeed" 245 (.ref 56),en P "NoRoom" 261 (.ref 68),en P "TwiceTold" 277 (.ref 80),en P "TooMany" 293 (.ref 92),en P "NoRule" 309 (.ref 104),en P "NoRow" 325 (.ref 116),en P "NoHold" 341 (.ref 128),en P "NoHolder" 357 (.ref 140),en P "FreeDeed" 373 (.ref 152)] 21,#[]⟩
def o162 (P:Params):Obj:=⟨.none,none,.fields #[.int 1 0,.int 0 0,.ref 20,.int 5 0,.int 0 0,.ref 27,.int 7 0,.int 0 0,.ref 40,.int 9 0,.int 0 0,.ref 52,.int 11 0,.int 0 0,.ref 64,.int 13 0,.int 0 0,.ref 76,.int 15 0,.int 0 0,.ref 88,.int 17 0,.int 0 0,.ref 100,.int 19 0,.int 0 0,.ref 112,.int 21 0,.int 0 0,.ref 124,.int 23 0,.int 0 0,.ref 136,.int 25 0,.int 0 0,.ref 148],#[]⟩
def o163 (P:Params):Obj:=⟨.type "type",none,.cls ⟨"WardError",[.type "ValueError"],[.ref 31,.type "ValueError",.type "Exception",.type "BaseException",.type "object"],30,"WardError",true,[],[.ref 44,.ref 56,.ref 68,.ref 80,.ref 92,.ref 104,.ref 116,.ref 128,.ref 140,.ref 152],false,none,false⟩,#[(some (.ref 22)),none,(some (.str "WardError" 196)),(some (.str "WardError" 204)),(some (.builtin "ValueError.__new__")),(some (.bool true))]⟩
def o164 (P:Params):Obj:=⟨.type "tuple",none,.seq #[.ref 31] 0,#[]⟩
def o165 (P:Params):Obj:=⟨.type "builtin_function_or_method",none,.fields #[.builtin "type.__prepare__",.type "type"],#[]⟩
def o166 (P:Params):Obj:=⟨.type "dict",none,.dict #[en P "__module__" 365 (.str "roomward.errors" 194),en P "__qualname__" 367 (.str "FreeDeed" 366),en P "__firstlineno__" 369 (.int 25 368),en P "__static_attributes__" 370 (.ref 150)] 4,#[]⟩
def o167 (P:Params):Obj:=⟨.type "tuple",none,.seq #[] 0,#[]⟩
def o168 (P:Params):Obj:=⟨.none,none,.fields #[],#[]⟩
def o169 (P:Params):Obj:=⟨.type "code",none,.fields #[.str "FreeDeed" 360,.str "FreeDeed" 361,.str "/claim/cut.py" 362,.int 25 0,.int 0 0,.int 0 0,.int 0 0,.int 0 0,.ref 146,.bool false,.int 181 0,.ref 147,.none,.none,.none,.none,.int 363 0,.int 25 0,.str "/claim/cut.py" 364],#[]⟩
def o170 (P:Params):Obj:=⟨.type "frame",none,.plain,#[(some (.ref 148)),(some (.ref 3)),(some (.ref 145)),none,(some (.str "roomward.errors" 194)),none,(some (.ref 0))]⟩
def o171 (P:Params):Obj:=⟨.type "tuple",none,.seq #[] 0,#[]⟩
def o172 (P:Params):Obj:=⟨.type "dict",none,.dict #[en P "__module__" 365 (.str "roomward.errors" 194),en P "__firstlineno__" 369 (.int 25 368),en P "__static_attributes__" 370 (.ref 150),en P "__doc__" 371 .none] 2,#[]⟩
def o173 (P:Params):Obj:=⟨.type "type",none,.cls ⟨"FreeDeed",[.ref 31],[.ref 152,.ref 31,.type "ValueError",.type "Exception",.type "BaseException",.type "object"],151,"FreeDeed",true,[],[],false,none,false⟩,#[(some (.ref 143)),none,(some (.str "FreeDeed" 358)),(some (.str "FreeDeed" 366)),(some (.builtin "ValueError.__new__")),(some (.bool true))]⟩
def o174 (P:Params):Obj:=⟨.type "super",none,.fields #[.ref 152,.ref 152,.ref 152],#[]⟩
def o175 (P:Params):Obj:=⟨.type "builtin_function_or_method",none,.fields #[.builtin "object.__init_subclass__",.ref 152],#[]⟩
noncomputable def T11 (P:Params):BT:=(bn (boot_o_0 P) (bn (boot_o_1 P) (bn (o161 P) (bn (boot_o_7 P) (bn (o6 P) (bn (o163 P) (bn (o63 P) (be (o142 P)) bz) (be (o104 P))) (bn (o44 P) (bn (o82 P) (be (o164 P)) bz) (be (o123 P)))) (bn (o14 P) (bn (o33 P) (bn (o74 P) (be (o153 P)) bz) (be (o112 P))) (bn (o52 P) (bn (o93 P) (be (o172 P)) bz) (be (o134 P))))) (bn (o0 P) (bn (o10 P) (bn (o29 P) (bn (o67 P) (be (o149 P)) bz) (be (o108 P))) (bn (o48 P) (bn (o89 P) (be (o168 P)) bz) (be (o127 P)))) (bn (o18 P) (bn (o37 P) (bn (o78 P) (be (o157 P)) bz) (be (o119 P))) (bn (o59 P) (be (o97 P)) (be (o138 P)))))) (bn (boot_o_5 P) (bn (boot_o_9 P) (bn (o8 P) (bn (o24 P) (bn (o65 P) (be (o144 P)) bz) (be (o106 P))) (bn (o46 P) (bn (o84 P) (be (o166 P)) bz) (be (o125 P)))) (bn (o16 P) (bn (o35 P) (bn (o76 P) (be (o155 P)) bz) (be (o114 P))) (bn (o54 P) (bn (o95 P) (be (o174 P)) bz) (be (o136 P))))) (bn (o2 P) (bn (o12 P) (bn (o31 P) (bn (o69 P) (be (o151 P)) bz) (be (o110 P))) (bn (o50 P) (bn (o91 P) (be (o170 P)) bz) (be (o129 P)))) (bn (o20 P) (bn (o39 P) (bn (o80 P) (be (o159 P)) bz) (be (o121 P))) (bn (o61 P) (be (o99 P)) (be (o140 P))))))) (bn (boot_o_2 P) (bn (boot_o_4 P) (bn (boot_o_8 P) (bn (o7 P) (bn (o23 P) (bn (o64 P) (be (o143 P)) bz) (be (o105 P))) (bn (o45 P) (bn (o83 P) (be (o165 P)) bz) (be (o124 P)))) (bn (o15 P) (bn (o34 P) (bn (o75 P) (be (o154 P)) bz) (be (o113 P))) (bn (o53 P) (bn (o94 P) (be (o173 P)) bz) (be (o135 P))))) (bn (o162 P) (bn (o11 P) (bn (o30 P) (bn (o68 P) (be (o150 P)) bz) (be (o109 P))) (bn (o49 P) (bn (o90 P) (be (o169 P)) bz) (be (o128 P)))) (bn (o19 P) (bn (o38 P) (bn (o79 P) (be (o158 P)) bz) (be (o120 P))) (bn (o60 P) (be (o98 P)) (be (o139 P)))))) (bn (boot_o_6 P) (bn (boot_o_10 P) (bn (o9 P) (bn (o25 P) (bn (o66 P) (be (o145 P)) bz) (be (o107 P))) (bn (o47 P) (bn (o85 P) (be (o167 P)) bz) (be (o126 P)))) (bn (o17 P) (bn (o36 P) (bn (o77 P) (be (o156 P)) bz) (be (o115 P))) (bn (o55 P) (bn (o96 P) (be (o175 P)) bz) (be (o137 P))))) (bn (o3 P) (bn (o13 P) (bn (o32 P) (bn (o70 P) (be (o152 P)) bz) (be (o111 P))) (bn (o51 P) (bn (o92 P) (be (o171 P)) bz) (be (o130 P)))) (bn (o21 P) (bn (o40 P) (bn (o81 P) (be (o160 P)) bz) (be (o122 P))) (bn (o62 P) (be (o100 P)) (be (o141 P))))))))
theorem pc11:Hd.Pc pp env T10 143 358 T11 155 374 214 [tp 12] ⟨23,0,24,8⟩ ⟨25,0,26,8⟩:=by
 intro w
 kernel_rfl
def o176 (P:Params):Obj:=⟨.type "dict",none,.dict #[en P "__name__" 165 (.str "roomward.errors" 194),en P "__doc__" 166 .none,en P "__package__" 167 .none,en P "__loader__" 168 (.builtin "__main__.__loader__#opaque"),en P "__spec__" 169 .none,en P "__annotations__" 170 (.ref 6),en P "__builtins__" 171 (.ref 4),en P "__file__" 173 (.str "/claim/cut.py" 172),en P "__cached__" 174 .none,en P "_wall" 193 (.ref 21),en P "WardError" 213 (.ref 31),en P "NoName" 229 (.ref 44),en P "NoDeed" 245 (.ref 56),en P "NoRoom" 261 (.ref 68),en P "TwiceTold" 277 (.ref 80),en P "TooMany" 293 (.ref 92),en P "NoRule" 309 (.ref 104),en P "NoRow" 325 (.ref 116),en P "NoHold" 341 (.ref 128),en P "NoHolder" 357 (.ref 140),en P "FreeDeed" 373 (.ref 152),en P "NotNow" 389 (.ref 164)] 22,#[]⟩
def o177 (P:Params):Obj:=⟨.none,none,.fields #[.int 1 0,.int 0 0,.ref 20,.int 5 0,.int 0 0,.ref 27,.int 7 0,.int 0 0,.ref 40,.int 9 0,.int 0 0,.ref 52,.int 11 0,.int 0 0,.ref 64,.int 13 0,.int 0 0,.ref 76,.int 15 0,.int 0 0,.ref 88,.int 17 0,.int 0 0,.ref 100,.int 19 0,.int 0 0,.ref 112,.int 21 0,.int 0 0,.ref 124,.int 23 0,.int 0 0,.ref 136,.int 25 0,.int 0 0,.ref 148,.int 27 0,.int 0 0,.ref 160],#[]⟩
def o178 (P:Params):Obj:=⟨.type "type",none,.cls ⟨"WardError",[.type "ValueError"],[.ref 31,.type "ValueError",.type "Exception",.type "BaseException",.type "object"],30,"WardError",true,[],[.ref 44,.ref 56,.ref 68,.ref 80,.ref 92,.ref 104,.ref 116,.ref 128,.ref 140,.ref 152,.ref 164],false,none,false⟩,#[(some (.ref 22)),none,(some (.str "WardError" 196)),(some (.str "WardError" 204)),(some (.builtin "ValueError.__new__")),(some (.bool true))]⟩
def o179 (P:Params):Obj:=⟨.type "tuple",none,.seq #[.ref 31] 0,#[]⟩
def o180 (P:Params):Obj:=⟨.type "builtin_function_or_method",none,.fields #[.builtin "type.__prepare__",.type "type"],#[]⟩
def o181 (P:Params):Obj:=⟨.type "dict",none,.dict #[en P "__module__" 381 (.str "roomward.errors" 194),en P "__qualname__" 383 (.str "NotNow" 382),en P "__firstlineno__" 385 (.int 27 384),en P "__static_attributes__" 386 (.ref 162)] 4,#[]⟩
def o182 (P:Params):Obj:=⟨.type "tuple",none,.seq #[] 0,#[]⟩
def o183 (P:Params):Obj:=⟨.none,none,.fields #[],#[]⟩
def o184 (P:Params):Obj:=⟨.type "code",none,.fields #[.str "NotNow" 376,.str "NotNow" 377,.str "/claim/cut.py" 378,.int 27 0,.int 0 0,.int 0 0,.int 0 0,.int 0 0,.ref 158,.bool false,.int 181 0,.ref 159,.none,.none,.none,.none,.int 379 0,.int 27 0,.str "/claim/cut.py" 380],#[]⟩
def o185 (P:Params):Obj:=⟨.type "frame",none,.plain,#[(some (.ref 160)),(some (.ref 3)),(some (.ref 157)),none,(some (.str "roomward.errors" 194)),none,(some (.ref 0))]⟩
def o186 (P:Params):Obj:=⟨.type "tuple",none,.seq #[] 0,#[]⟩
def o187 (P:Params):Obj:=⟨.type "dict",none,.dict #[en P "__module__" 381 (.str "roomward.errors" 194),en P "__firstlineno__" 385 (.int 27 384),en P "__static_attributes__" 386 (.ref 162),en P "__doc__" 387 .none] 2,#[]⟩
def o188 (P:Params):Obj:=⟨.type "type",none,.cls ⟨"NotNow",[.ref 31],[.ref 164,.ref 31,.type "ValueError",.type "Exception",.type "BaseException",.type "object"],163,"NotNow",true,[],[],false,none,false⟩,#[(some (.ref 155)),none,(some (.str "NotNow" 374)),(some (.str "NotNow" 382)),(some (.builtin "ValueError.__new__")),(some (.bool true))]⟩
def o189 (P:Params):Obj:=⟨.type "super",none,.fields #[.ref 164,.ref 164,.ref 164],#[]⟩
def o190 (P:Params):Obj:=⟨.type "builtin_function_or_method",none,.fields #[.builtin "object.__init_subclass__",.ref 164],#[]⟩
noncomputable def T12 (P:Params):BT:=(bn (boot_o_0 P) (bn (boot_o_1 P) (bn (o176 P) (bn (boot_o_7 P) (bn (o6 P) (bn (o178 P) (bn (o63 P) (be (o142 P)) bz) (bn (o104 P) (be (o183 P)) bz)) (bn (o44 P) (bn (o82 P) (be (o164 P)) bz) (be (o123 P)))) (bn (o14 P) (bn (o33 P) (bn (o74 P) (be (o153 P)) bz) (be (o112 P))) (bn (o52 P) (bn (o93 P) (be (o172 P)) bz) (be (o134 P))))) (bn (o0 P) (bn (o10 P) (bn (o29 P) (bn (o67 P) (be (o149 P)) bz) (bn (o108 P) (be (o187 P)) bz)) (bn (o48 P) (bn (o89 P) (be (o168 P)) bz) (be (o127 P)))) (bn (o18 P) (bn (o37 P) (bn (o78 P) (be (o157 P)) bz) (be (o119 P))) (bn (o59 P) (bn (o97 P) (be (o179 P)) bz) (be (o138 P)))))) (bn (boot_o_5 P) (bn (boot_o_9 P) (bn (o8 P) (bn (o24 P) (bn (o65 P) (be (o144 P)) bz) (bn (o106 P) (be (o185 P)) bz)) (bn (o46 P) (bn (o84 P) (be (o166 P)) bz) (be (o125 P)))) (bn (o16 P) (bn (o35 P) (bn (o76 P) (be (o155 P)) bz) (be (o114 P))) (bn (o54 P) (bn (o95 P) (be (o174 P)) bz) (be (o136 P))))) (bn (o2 P) (bn (o12 P) (bn (o31 P) (bn (o69 P) (be (o151 P)) bz) (bn (o110 P) (be (o189 P)) bz)) (bn (o50 P) (bn (o91 P) (be (o170 P)) bz) (be (o129 P)))) (bn (o20 P) (bn (o39 P) (bn (o80 P) (be (o159 P)) bz) (be (o121 P))) (bn (o61 P) (bn (o99 P) (be (o181 P)) bz) (be (o140 P))))))) (bn (boot_o_2 P) (bn (boot_o_4 P) (bn (boot_o_8 P) (bn (o7 P) (bn (o23 P) (bn (o64 P) (be (o143 P)) bz) (bn (o105 P) (be (o184 P)) bz)) (bn (o45 P) (bn (o83 P) (be (o165 P)) bz) (be (o124 P)))) (bn (o15 P) (bn (o34 P) (bn (o75 P) (be (o154 P)) bz) (be (o113 P))) (bn (o53 P) (bn (o94 P) (be (o173 P)) bz) (be (o135 P))))) (bn (o177 P) (bn (o11 P) (bn (o30 P) (bn (o68 P) (be (o150 P)) bz) (bn (o109 P) (be (o188 P)) bz)) (bn (o49 P) (bn (o90 P) (be (o169 P)) bz) (be (o128 P)))) (bn (o19 P) (bn (o38 P) (bn (o79 P) (be (o158 P)) bz) (be (o120 P))) (bn (o60 P) (bn (o98 P) (be (o180 P)) bz) (be (o139 P)))))) (bn (boot_o_6 P) (bn (boot_o_10 P) (bn (o9 P) (bn (o25 P) (bn (o66 P) (be (o145 P)) bz) (bn (o107 P) (be (o186 P)) bz)) (bn (o47 P) (bn (o85 P) (be (o167 P)) bz) (be (o126 P)))) (bn (o17 P) (bn (o36 P) (bn (o77 P) (be (o156 P)) bz) (be (o115 P))) (bn (o55 P) (bn (o96 P) (be (o175 P)) bz) (be (o137 P))))) (bn (o3 P) (bn (o13 P) (bn (o32 P) (bn (o70 P) (be (o152 P)) bz) (bn (o111 P) (be (o190 P)) bz)) (bn (o51 P) (bn (o92 P) (be (o171 P)) bz) (be (o130 P)))) (bn (o21 P) (bn (o40 P) (bn (o81 P) (be (o160 P)) bz) (be (o122 P))) (bn (o62 P) (bn (o100 P) (be (o182 P)) bz) (be (o141 P))))))))
theorem pc12:Hd.Pc pp env T11 155 374 T12 167 390 214 [tp 13] ⟨25,0,26,8⟩ ⟨27,0,28,8⟩:=by
 intro w
 kernel_rfl
def o191 (P:Params):Obj:=⟨.type "dict",none,.dict #[en P "__name__" 165 (.str "roomward.errors" 194),en P "__doc__" 166 .none,en P "__package__" 167 .none,en P "__loader__" 168 (.builtin "__main__.__loader__#opaque"),en P "__spec__" 169 .none,en P "__annotations__" 170 (.ref 6),en P "__builtins__" 171 (.ref 4),en P "__file__" 173 (.str "/claim/cut.py" 172),en P "__cached__" 174 .none,en P "_wall" 193 (.ref 21),en P "WardError" 213 (.ref 31),en P "NoName" 229 (.ref 44),en P "NoDeed" 245 (.ref 56),en P "NoRoom" 261 (.ref 68),en P "TwiceTold" 277 (.ref 80),en P "TooMany" 293 (.ref 92),en P "NoRule" 309 (.ref 104),en P "NoRow" 325 (.ref 116),en P "NoHold" 341 (.ref 128),en P "NoHolder" 357 (.ref 140),en P "FreeDeed" 373 (.ref 152),en P "NotNow" 389 (.ref 164),en P "NoWarden" 416 (.ref 183)] 23,#[]⟩
def o192 (P:Params):Obj:=⟨.none,none,.fields #[.int 1 0,.int 0 0,.ref 20,.int 5 0,.int 0 0,.ref 27,.int 7 0,.int 0 0,.ref 40,.int 9 0,.int 0 0,.ref 52,.int 11 0,.int 0 0,.ref 64,.int 13 0,.int 0 0,.ref 76,.int 15 0,.int 0 0,.ref 88,.int 17 0,.int 0 0,.ref 100,.int 19 0,.int 0 0,.ref 112,.int 21 0,.int 0 0,.ref 124,.int 23 0,.int 0 0,.ref 136,.int 25 0,.int 0 0,.ref 148,.int 27 0,.int 0 0,.ref 160,.int 29 0,.int 0 0,.ref 172],#[]⟩
def o193 (P:Params):Obj:=⟨.type "type",none,.cls ⟨"WardError",[.type "ValueError"],[.ref 31,.type "ValueError",.type "Exception",.type "BaseException",.type "object"],30,"WardError",true,[],[.ref 44,.ref 56,.ref 68,.ref 80,.ref 92,.ref 104,.ref 116,.ref 128,.ref 140,.ref 152,.ref 164,.ref 183],false,none,false⟩,#[(some (.ref 22)),none,(some (.str "WardError" 196)),(some (.str "WardError" 204)),(some (.builtin "ValueError.__new__")),(some (.bool true))]⟩
def o194 (P:Params):Obj:=⟨.type "tuple",none,.seq #[.ref 31] 0,#[]⟩
def o195 (P:Params):Obj:=⟨.type "builtin_function_or_method",none,.fields #[.builtin "type.__prepare__",.type "type"],#[]⟩
def o196 (P:Params):Obj:=⟨.type "dict",none,.dict #[en P "__module__" 397 (.str "roomward.errors" 194),en P "__qualname__" 399 (.str "NoWarden" 398),en P "__firstlineno__" 401 (.int 29 400),en P "__init__" 410 (.ref 180),en P "__static_attributes__" 413 (.ref 181)] 5,#[]⟩
def o197 (P:Params):Obj:=⟨.type "tuple",none,.seq #[] 0,#[]⟩
def o198 (P:Params):Obj:=⟨.none,none,.fields #[.int 31 0,.int 4 0,.ref 179],#[]⟩
def o199 (P:Params):Obj:=⟨.type "code",none,.fields #[.str "NoWarden" 392,.str "NoWarden" 393,.str "/claim/cut.py" 394,.int 29 0,.int 0 0,.int 0 0,.int 0 0,.int 0 0,.ref 170,.bool false,.int 181 0,.ref 171,.none,.none,.none,.none,.int 395 0,.int 29 0,.str "/claim/cut.py" 396],#[]⟩
def o200 (P:Params):Obj:=⟨.type "frame",none,.plain,#[(some (.ref 172)),(some (.ref 3)),(some (.ref 169)),none,(some (.str "roomward.errors" 194)),none,(some (.ref 0))]⟩
def o201 (P:Params):Obj:=⟨.type "tuple",none,.seq #[] 0,#[]⟩
def o202 (P:Params):Obj:=⟨.none,none,.fields #[],#[]⟩
def o203 (P:Params):Obj:=⟨.type "tuple",none,.seq #[.str "self" 405,.str "word" 406,.str "row" 407] 0,#[]⟩
def o204 (P:Params):Obj:=⟨.type "tuple",none,.seq #[] 0,#[]⟩
def o205 (P:Params):Obj:=⟨.none,none,.func ⟨"__init__","NoWarden.__init__",defArgs (inClass (tp 14) 0),.stmts (defBody (inClass (tp 14) 0)),defScope (inClass (tp 14) 0),0,[],.none,.none,.none,.none,none,.none,.none,0⟩,#[]⟩
def o206 (P:Params):Obj:=⟨.type "code",none,.fields #[.str "__init__" 402,.str "NoWarden.__init__" 403,.str "/claim/cut.py" 404,.int 31 0,.int 3 0,.int 0 0,.int 0 0,.int 3 0,.ref 174,.bool true,.int 181 0,.ref 175,.none,.ref 176,.ref 177,.ref 178,.int 408 0,.int 31 0,.str "/claim/cut.py" 409],#[]⟩
def o207 (P:Params):Obj:=⟨.type "function",none,.func ⟨"__init__","NoWarden.__init__",defArgs (inClass (tp 14) 0),.stmts (defBody (inClass (tp 14) 0)),defScope (inClass (tp 14) 0),3,[],.none,.none,.none,.str "roomward.errors" 194,none,.ref 179,.none,0⟩,#[]⟩
def o208 (P:Params):Obj:=⟨.type "tuple",none,.seq #[.str "row" 411,.str "word" 412] 0,#[]⟩
def o209 (P:Params):Obj:=⟨.type "dict",none,.dict #[en P "__module__" 397 (.str "roomward.errors" 194),en P "__firstlineno__" 401 (.int 29 400),en P "__init__" 410 (.ref 180),en P "__static_attributes__" 413 (.ref 181),en P "__doc__" 414 .none] 2,#[]⟩
def o210 (P:Params):Obj:=⟨.type "type",none,.cls ⟨"NoWarden",[.ref 31],[.ref 183,.ref 31,.type "ValueError",.type "Exception",.type "BaseException",.type "object"],182,"NoWarden",true,[],[],false,none,false⟩,#[(some (.ref 167)),none,(some (.str "NoWarden" 390)),(some (.str "NoWarden" 398)),(some (.builtin "ValueError.__new__")),(some (.bool true))]⟩
def o211 (P:Params):Obj:=⟨.type "super",none,.fields #[.ref 183,.ref 183,.ref 183],#[]⟩
def o212 (P:Params):Obj:=⟨.type "builtin_function_or_method",none,.fields #[.builtin "object.__init_subclass__",.ref 183],#[]⟩
noncomputable def T13 (P:Params):BT:=(bn (boot_o_0 P) (bn (boot_o_1 P) (bn (o191 P) (bn (boot_o_7 P) (bn (o6 P) (bn (o193 P) (bn (o63 P) (be (o142 P)) bz) (bn (o104 P) (be (o183 P)) bz)) (bn (o44 P) (bn (o82 P) (be (o164 P)) bz) (bn (o123 P) (be (o202 P)) bz))) (bn (o14 P) (bn (o33 P) (bn (o74 P) (be (o153 P)) bz) (bn (o112 P) (be (o194 P)) bz)) (bn (o52 P) (bn (o93 P) (be (o172 P)) bz) (bn (o134 P) (be (o210 P)) bz)))) (bn (o0 P) (bn (o10 P) (bn (o29 P) (bn (o67 P) (be (o149 P)) bz) (bn (o108 P) (be (o187 P)) bz)) (bn (o48 P) (bn (o89 P) (be (o168 P)) bz) (bn (o127 P) (be (o206 P)) bz))) (bn (o18 P) (bn (o37 P) (bn (o78 P) (be (o157 P)) bz) (bn (o119 P) (be (o198 P)) bz)) (bn (o59 P) (bn (o97 P) (be (o179 P)) bz) (be (o138 P)))))) (bn (boot_o_5 P) (bn (boot_o_9 P) (bn (o8 P) (bn (o24 P) (bn (o65 P) (be (o144 P)) bz) (bn (o106 P) (be (o185 P)) bz)) (bn (o46 P) (bn (o84 P) (be (o166 P)) bz) (bn (o125 P) (be (o204 P)) bz))) (bn (o16 P) (bn (o35 P) (bn (o76 P) (be (o155 P)) bz) (bn (o114 P) (be (o196 P)) bz)) (bn (o54 P) (bn (o95 P) (be (o174 P)) bz) (bn (o136 P) (be (o212 P)) bz)))) (bn (o2 P) (bn (o12 P) (bn (o31 P) (bn (o69 P) (be (o151 P)) bz) (bn (o110 P) (be (o189 P)) bz)) (bn (o50 P) (bn (o91 P) (be (o170 P)) bz) (bn (o129 P) (be (o208 P)) bz))) (bn (o20 P) (bn (o39 P) (bn (o80 P) (be (o159 P)) bz) (bn (o121 P) (be (o200 P)) bz)) (bn (o61 P) (bn (o99 P) (be (o181 P)) bz) (be (o140 P))))))) (bn (boot_o_2 P) (bn (boot_o_4 P) (bn (boot_o_8 P) (bn (o7 P) (bn (o23 P) (bn (o64 P) (be (o143 P)) bz) (bn (o105 P) (be (o184 P)) bz)) (bn (o45 P) (bn (o83 P) (be (o165 P)) bz) (bn (o124 P) (be (o203 P)) bz))) (bn (o15 P) (bn (o34 P) (bn (o75 P) (be (o154 P)) bz) (bn (o113 P) (be (o195 P)) bz)) (bn (o53 P) (bn (o94 P) (be (o173 P)) bz) (bn (o135 P) (be (o211 P)) bz)))) (bn (o192 P) (bn (o11 P) (bn (o30 P) (bn (o68 P) (be (o150 P)) bz) (bn (o109 P) (be (o188 P)) bz)) (bn (o49 P) (bn (o90 P) (be (o169 P)) bz) (bn (o128 P) (be (o207 P)) bz))) (bn (o19 P) (bn (o38 P) (bn (o79 P) (be (o158 P)) bz) (bn (o120 P) (be (o199 P)) bz)) (bn (o60 P) (bn (o98 P) (be (o180 P)) bz) (be (o139 P)))))) (bn (boot_o_6 P) (bn (boot_o_10 P) (bn (o9 P) (bn (o25 P) (bn (o66 P) (be (o145 P)) bz) (bn (o107 P) (be (o186 P)) bz)) (bn (o47 P) (bn (o85 P) (be (o167 P)) bz) (bn (o126 P) (be (o205 P)) bz))) (bn (o17 P) (bn (o36 P) (bn (o77 P) (be (o156 P)) bz) (bn (o115 P) (be (o197 P)) bz)) (bn (o55 P) (bn (o96 P) (be (o175 P)) bz) (be (o137 P))))) (bn (o3 P) (bn (o13 P) (bn (o32 P) (bn (o70 P) (be (o152 P)) bz) (bn (o111 P) (be (o190 P)) bz)) (bn (o51 P) (bn (o92 P) (be (o171 P)) bz) (bn (o130 P) (be (o209 P)) bz))) (bn (o21 P) (bn (o40 P) (bn (o81 P) (be (o160 P)) bz) (bn (o122 P) (be (o201 P)) bz)) (bn (o62 P) (bn (o100 P) (be (o182 P)) bz) (be (o141 P))))))))
theorem pc13:Hd.Pc pp env T12 167 390 T13 186 417 248 [tp 14] ⟨27,0,28,8⟩ ⟨29,0,34,28⟩:=by
 intro w
 kernel_rfl
def o213 (P:Params):Obj:=⟨.type "dict",none,.dict #[en P "__name__" 165 (.str "roomward.errors" 194),en P "__doc__" 166 .none,en P "__package__" 167 .none,en P "__loader__" 168 (.builtin "__main__.__loader__#opaque"),en P "__spec__" 169 .none,en P "__annotations__" 170 (.ref 6),en P "__builtins__" 171 (.ref 4),en P "__file__" 173 (.str "/claim/cut.py" 172),en P "__cached__" 174 .none,en P "_wall" 193 (.ref 21),en P "WardError" 213 (.ref 31),en P "NoName" 229 (.ref 44),en P "NoDeed" 245 (.ref 56),en P "NoRoom" 261 (.ref 68),en P "TwiceTold" 277 (.ref 80),en P "TooMany" 293 (.ref 92),en P "NoRule" 309 (.ref 104),en P "NoRow" 325 (.ref 116),en P "NoHold" 341 (.ref 128),en P "NoHolder" 357 (.ref 140),en P "FreeDeed" 373 (.ref 152),en P "NotNow" 389 (.ref 164),en P "NoWarden" 416 (.ref 183),en P "NoText" 441 (.ref 202)] 24,#[]⟩
def o214 (P:Params):Obj:=⟨.none,none,.fields #[.int 1 0,.int 0 0,.ref 20,.int 5 0,.int 0 0,.ref 27,.int 7 0,.int 0 0,.ref 40,.int 9 0,.int 0 0,.ref 52,.int 11 0,.int 0 0,.ref 64,.int 13 0,.int 0 0,.ref 76,.int 15 0,.int 0 0,.ref 88,.int 17 0,.int 0 0,.ref 100,.int 19 0,.int 0 0,.ref 112,.int 21 0,.int 0 0,.ref 124,.int 23 0,.int 0 0,.ref 136,.int 25 0,.int 0 0,.ref 148,.int 27 0,.int 0 0,.ref 160,.int 29 0,.int 0 0,.ref 172,.int 35 0,.int 0 0,.ref 191],#[]⟩
def o215 (P:Params):Obj:=⟨.type "type",none,.cls ⟨"WardError",[.type "ValueError"],[.ref 31,.type "ValueError",.type "Exception",.type "BaseException",.type "object"],30,"WardError",true,[],[.ref 44,.ref 56,.ref 68,.ref 80,.ref 92,.ref 104,.ref 116,.ref 128,.ref 140,.ref 152,.ref 164,.ref 183,.ref 202],false,none,false⟩,#[(some (.ref 22)),none,(some (.str "WardError" 196)),(some (.str "WardError" 204)),(some (.builtin "ValueError.__new__")),(some (.bool true))]⟩
def o216 (P:Params):Obj:=⟨.type "tuple",none,.seq #[.ref 31] 0,#[]⟩
def o217 (P:Params):Obj:=⟨.type "builtin_function_or_method",none,.fields #[.builtin "type.__prepare__",.type "type"],#[]⟩
def o218 (P:Params):Obj:=⟨.type "dict",none,.dict #[en P "__module__" 424 (.str "roomward.errors" 194),en P "__qualname__" 426 (.str "NoText" 425),en P "__firstlineno__" 428 (.int 35 427),en P "__init__" 436 (.ref 199),en P "__static_attributes__" 438 (.ref 200)] 5,#[]⟩
def o219 (P:Params):Obj:=⟨.type "tuple",none,.seq #[] 0,#[]⟩
def o220 (P:Params):Obj:=⟨.none,none,.fields #[.int 37 0,.int 4 0,.ref 198],#[]⟩
def o221 (P:Params):Obj:=⟨.type "code",none,.fields #[.str "NoText" 419,.str "NoText" 420,.str "/claim/cut.py" 421,.int 35 0,.int 0 0,.int 0 0,.int 0 0,.int 0 0,.ref 189,.bool false,.int 181 0,.ref 190,.none,.none,.none,.none,.int 422 0,.int 35 0,.str "/claim/cut.py" 423],#[]⟩
def o222 (P:Params):Obj:=⟨.type "frame",none,.plain,#[(some (.ref 191)),(some (.ref 3)),(some (.ref 188)),none,(some (.str "roomward.errors" 194)),none,(some (.ref 0))]⟩
def o223 (P:Params):Obj:=⟨.type "tuple",none,.seq #[] 0,#[]⟩
def o224 (P:Params):Obj:=⟨.none,none,.fields #[],#[]⟩
def o225 (P:Params):Obj:=⟨.type "tuple",none,.seq #[.str "self" 432,.str "row" 433] 0,#[]⟩
def o226 (P:Params):Obj:=⟨.type "tuple",none,.seq #[] 0,#[]⟩
def o227 (P:Params):Obj:=⟨.none,none,.func ⟨"__init__","NoText.__init__",defArgs (inClass (tp 15) 0),.stmts (defBody (inClass (tp 15) 0)),defScope (inClass (tp 15) 0),0,[],.none,.none,.none,.none,none,.none,.none,0⟩,#[]⟩
def o228 (P:Params):Obj:=⟨.type "code",none,.fields #[.str "__init__" 429,.str "NoText.__init__" 430,.str "/claim/cut.py" 431,.int 37 0,.int 2 0,.int 0 0,.int 0 0,.int 3 0,.ref 193,.bool true,.int 181 0,.ref 194,.none,.ref 195,.ref 196,.ref 197,.int 434 0,.int 37 0,.str "/claim/cut.py" 435],#[]⟩
def o229 (P:Params):Obj:=⟨.type "function",none,.func ⟨"__init__","NoText.__init__",defArgs (inClass (tp 15) 0),.stmts (defBody (inClass (tp 15) 0)),defScope (inClass (tp 15) 0),3,[],.none,.none,.none,.str "roomward.errors" 194,none,.ref 198,.none,0⟩,#[]⟩
def o230 (P:Params):Obj:=⟨.type "tuple",none,.seq #[.str "row" 437] 0,#[]⟩
def o231 (P:Params):Obj:=⟨.type "dict",none,.dict #[en P "__module__" 424 (.str "roomward.errors" 194),en P "__firstlineno__" 428 (.int 35 427),en P "__init__" 436 (.ref 199),en P "__static_attributes__" 438 (.ref 200),en P "__doc__" 439 .none] 2,#[]⟩
def o232 (P:Params):Obj:=⟨.type "type",none,.cls ⟨"NoText",[.ref 31],[.ref 202,.ref 31,.type "ValueError",.type "Exception",.type "BaseException",.type "object"],201,"NoText",true,[],[],false,none,false⟩,#[(some (.ref 186)),none,(some (.str "NoText" 417)),(some (.str "NoText" 425)),(some (.builtin "ValueError.__new__")),(some (.bool true))]⟩
def o233 (P:Params):Obj:=⟨.type "super",none,.fields #[.ref 202,.ref 202,.ref 202],#[]⟩
def o234 (P:Params):Obj:=⟨.type "builtin_function_or_method",none,.fields #[.builtin "object.__init_subclass__",.ref 202],#[]⟩
noncomputable def T14 (P:Params):BT:=(bn (boot_o_0 P) (bn (boot_o_1 P) (bn (o213 P) (bn (boot_o_7 P) (bn (o6 P) (bn (o215 P) (bn (o63 P) (be (o142 P)) (be (o221 P))) (bn (o104 P) (be (o183 P)) bz)) (bn (o44 P) (bn (o82 P) (be (o164 P)) bz) (bn (o123 P) (be (o202 P)) bz))) (bn (o14 P) (bn (o33 P) (bn (o74 P) (be (o153 P)) (be (o229 P))) (bn (o112 P) (be (o194 P)) bz)) (bn (o52 P) (bn (o93 P) (be (o172 P)) bz) (bn (o134 P) (be (o210 P)) bz)))) (bn (o0 P) (bn (o10 P) (bn (o29 P) (bn (o67 P) (be (o149 P)) (be (o225 P))) (bn (o108 P) (be (o187 P)) bz)) (bn (o48 P) (bn (o89 P) (be (o168 P)) bz) (bn (o127 P) (be (o206 P)) bz))) (bn (o18 P) (bn (o37 P) (bn (o78 P) (be (o157 P)) (be (o233 P))) (bn (o119 P) (be (o198 P)) bz)) (bn (o59 P) (bn (o97 P) (be (o179 P)) bz) (bn (o138 P) (be (o217 P)) bz))))) (bn (boot_o_5 P) (bn (boot_o_9 P) (bn (o8 P) (bn (o24 P) (bn (o65 P) (be (o144 P)) (be (o223 P))) (bn (o106 P) (be (o185 P)) bz)) (bn (o46 P) (bn (o84 P) (be (o166 P)) bz) (bn (o125 P) (be (o204 P)) bz))) (bn (o16 P) (bn (o35 P) (bn (o76 P) (be (o155 P)) (be (o231 P))) (bn (o114 P) (be (o196 P)) bz)) (bn (o54 P) (bn (o95 P) (be (o174 P)) bz) (bn (o136 P) (be (o212 P)) bz)))) (bn (o2 P) (bn (o12 P) (bn (o31 P) (bn (o69 P) (be (o151 P)) (be (o227 P))) (bn (o110 P) (be (o189 P)) bz)) (bn (o50 P) (bn (o91 P) (be (o170 P)) bz) (bn (o129 P) (be (o208 P)) bz))) (bn (o20 P) (bn (o39 P) (bn (o80 P) (be (o159 P)) bz) (bn (o121 P) (be (o200 P)) bz)) (bn (o61 P) (bn (o99 P) (be (o181 P)) bz) (bn (o140 P) (be (o219 P)) bz)))))) (bn (boot_o_2 P) (bn (boot_o_4 P) (bn (boot_o_8 P) (bn (o7 P) (bn (o23 P) (bn (o64 P) (be (o143 P)) (be (o222 P))) (bn (o105 P) (be (o184 P)) bz)) (bn (o45 P) (bn (o83 P) (be (o165 P)) bz) (bn (o124 P) (be (o203 P)) bz))) (bn (o15 P) (bn (o34 P) (bn (o75 P) (be (o154 P)) (be (o230 P))) (bn (o113 P) (be (o195 P)) bz)) (bn (o53 P) (bn (o94 P) (be (o173 P)) bz) (bn (o135 P) (be (o211 P)) bz)))) (bn (o214 P) (bn (o11 P) (bn (o30 P) (bn (o68 P) (be (o150 P)) (be (o226 P))) (bn (o109 P) (be (o188 P)) bz)) (bn (o49 P) (bn (o90 P) (be (o169 P)) bz) (bn (o128 P) (be (o207 P)) bz))) (bn (o19 P) (bn (o38 P) (bn (o79 P) (be (o158 P)) (be (o234 P))) (bn (o120 P) (be (o199 P)) bz)) (bn (o60 P) (bn (o98 P) (be (o180 P)) bz) (bn (o139 P) (be (o218 P)) bz))))) (bn (boot_o_6 P) (bn (boot_o_10 P) (bn (o9 P) (bn (o25 P) (bn (o66 P) (be (o145 P)) (be (o224 P))) (bn (o107 P) (be (o186 P)) bz)) (bn (o47 P) (bn (o85 P) (be (o167 P)) bz) (bn (o126 P) (be (o205 P)) bz))) (bn (o17 P) (bn (o36 P) (bn (o77 P) (be (o156 P)) (be (o232 P))) (bn (o115 P) (be (o197 P)) bz)) (bn (o55 P) (bn (o96 P) (be (o175 P)) bz) (bn (o137 P) (be (o216 P)) bz)))) (bn (o3 P) (bn (o13 P) (bn (o32 P) (bn (o70 P) (be (o152 P)) (be (o228 P))) (bn (o111 P) (be (o190 P)) bz)) (bn (o51 P) (bn (o92 P) (be (o171 P)) bz) (bn (o130 P) (be (o209 P)) bz))) (bn (o21 P) (bn (o40 P) (bn (o81 P) (be (o160 P)) bz) (bn (o122 P) (be (o201 P)) bz)) (bn (o62 P) (bn (o100 P) (be (o182 P)) bz) (bn (o141 P) (be (o220 P)) bz)))))))
theorem pc14:Hd.Pc pp env T13 186 417 T14 205 442 246 [tp 15] ⟨29,0,34,28⟩ ⟨35,0,38,22⟩:=by
 intro w
 kernel_rfl
def o235 (P:Params):Obj:=⟨.type "dict",none,.dict #[en P "__name__" 165 (.str "roomward.deeds" 467),en P "__doc__" 166 .none,en P "__package__" 167 .none,en P "__loader__" 168 (.builtin "__main__.__loader__#opaque"),en P "__spec__" 169 .none,en P "__annotations__" 170 (.ref 6),en P "__builtins__" 171 (.ref 4),en P "__file__" 173 (.str "/claim/cut.py" 172),en P "__cached__" 174 .none,en P "_wall" 193 (.ref 21),en P "WardError" 213 (.ref 31),en P "NoName" 229 (.ref 44),en P "NoDeed" 245 (.ref 56),en P "NoRoom" 261 (.ref 68),en P "TwiceTold" 277 (.ref 80),en P "TooMany" 293 (.ref 92),en P "NoRule" 309 (.ref 104),en P "NoRow" 325 (.ref 116),en P "NoHold" 341 (.ref 128),en P "NoHolder" 357 (.ref 140),en P "FreeDeed" 373 (.ref 152),en P "NotNow" 389 (.ref 164),en P "NoWarden" 416 (.ref 183),en P "NoText" 441 (.ref 202),en P "NoBook" 466 (.ref 221),en P "LETTERS" 470 (.str "abcdefghijklmnopqrstuvwxyz" 469),en P "FIGURES" 472 (.str "0123456789" 471),en P "MOST_SIGNS" 474 (.int 8 473),en P "MOST_DEEDS" 476 (.int 12 475),en P "is_name" 482 (.ref 228),en P "refuse_names" 491 (.ref 235),en P "weights_of" 501 (.ref 242)] 32,#[]⟩
def o236 (P:Params):Obj:=⟨.none,none,.fields #[.int 1 0,.int 0 0,.ref 20,.int 5 0,.int 0 0,.ref 27,.int 7 0,.int 0 0,.ref 40,.int 9 0,.int 0 0,.ref 52,.int 11 0,.int 0 0,.ref 64,.int 13 0,.int 0 0,.ref 76,.int 15 0,.int 0 0,.ref 88,.int 17 0,.int 0 0,.ref 100,.int 19 0,.int 0 0,.ref 112,.int 21 0,.int 0 0,.ref 124,.int 23 0,.int 0 0,.ref 136,.int 25 0,.int 0 0,.ref 148,.int 27 0,.int 0 0,.ref 160,.int 29 0,.int 0 0,.ref 172,.int 35 0,.int 0 0,.ref 191,.int 39 0,.int 0 0,.ref 210,.int 48 0,.int 0 0,.ref 227,.int 53 0,.int 0 0,.ref 234,.int 63 0,.int 0 0,.ref 241],#[]⟩
def o237 (P:Params):Obj:=⟨.type "type",none,.cls ⟨"WardError",[.type "ValueError"],[.ref 31,.type "ValueError",.type "Exception",.type "BaseException",.type "object"],30,"WardError",true,[],[.ref 44,.ref 56,.ref 68,.ref 80,.ref 92,.ref 104,.ref 116,.ref 128,.ref 140,.ref 152,.ref 164,.ref 183,.ref 202,.ref 221],false,none,false⟩,#[(some (.ref 22)),none,(some (.str "WardError" 196)),(some (.str "WardError" 204)),(some (.builtin "ValueError.__new__")),(some (.bool true))]⟩
def o238 (P:Params):Obj:=⟨.type "tuple",none,.seq #[.ref 31] 0,#[]⟩
def o239 (P:Params):Obj:=⟨.type "builtin_function_or_method",none,.fields #[.builtin "type.__prepare__",.type "type"],#[]⟩
def o240 (P:Params):Obj:=⟨.type "dict",none,.dict #[en P "__module__" 449 (.str "roomward.errors" 194),en P "__qualname__" 451 (.str "NoBook" 450),en P "__firstlineno__" 453 (.int 39 452),en P "__init__" 461 (.ref 218),en P "__static_attributes__" 463 (.ref 219)] 5,#[]⟩
def o241 (P:Params):Obj:=⟨.type "tuple",none,.seq #[] 0,#[]⟩
def o242 (P:Params):Obj:=⟨.none,none,.fields #[.int 41 0,.int 4 0,.ref 217],#[]⟩
def o243 (P:Params):Obj:=⟨.type "code",none,.fields #[.str "NoBook" 444,.str "NoBook" 445,.str "/claim/cut.py" 446,.int 39 0,.int 0 0,.int 0 0,.int 0 0,.int 0 0,.ref 208,.bool false,.int 181 0,.ref 209,.none,.none,.none,.none,.int 447 0,.int 39 0,.str "/claim/cut.py" 448],#[]⟩
def o244 (P:Params):Obj:=⟨.type "frame",none,.plain,#[(some (.ref 210)),(some (.ref 3)),(some (.ref 207)),none,(some (.str "roomward.errors" 194)),none,(some (.ref 0))]⟩
def o245 (P:Params):Obj:=⟨.type "tuple",none,.seq #[] 0,#[]⟩
def o246 (P:Params):Obj:=⟨.none,none,.fields #[],#[]⟩
def o247 (P:Params):Obj:=⟨.type "tuple",none,.seq #[.str "self" 457,.str "row" 458] 0,#[]⟩
def o248 (P:Params):Obj:=⟨.type "tuple",none,.seq #[] 0,#[]⟩
def o249 (P:Params):Obj:=⟨.none,none,.func ⟨"__init__","NoBook.__init__",defArgs (inClass (tp 16) 0),.stmts (defBody (inClass (tp 16) 0)),defScope (inClass (tp 16) 0),0,[],.none,.none,.none,.none,none,.none,.none,0⟩,#[]⟩
def o250 (P:Params):Obj:=⟨.type "code",none,.fields #[.str "__init__" 454,.str "NoBook.__init__" 455,.str "/claim/cut.py" 456,.int 41 0,.int 2 0,.int 0 0,.int 0 0,.int 3 0,.ref 212,.bool true,.int 181 0,.ref 213,.none,.ref 214,.ref 215,.ref 216,.int 459 0,.int 41 0,.str "/claim/cut.py" 460],#[]⟩
def o251 (P:Params):Obj:=⟨.type "function",none,.func ⟨"__init__","NoBook.__init__",defArgs (inClass (tp 16) 0),.stmts (defBody (inClass (tp 16) 0)),defScope (inClass (tp 16) 0),3,[],.none,.none,.none,.str "roomward.errors" 194,none,.ref 217,.none,0⟩,#[]⟩
def o252 (P:Params):Obj:=⟨.type "tuple",none,.seq #[.str "row" 462] 0,#[]⟩
def o253 (P:Params):Obj:=⟨.type "dict",none,.dict #[en P "__module__" 449 (.str "roomward.errors" 194),en P "__firstlineno__" 453 (.int 39 452),en P "__init__" 461 (.ref 218),en P "__static_attributes__" 463 (.ref 219),en P "__doc__" 464 .none] 2,#[]⟩
def o254 (P:Params):Obj:=⟨.type "type",none,.cls ⟨"NoBook",[.ref 31],[.ref 221,.ref 31,.type "ValueError",.type "Exception",.type "BaseException",.type "object"],220,"NoBook",true,[],[],false,none,false⟩,#[(some (.ref 205)),none,(some (.str "NoBook" 442)),(some (.str "NoBook" 450)),(some (.builtin "ValueError.__new__")),(some (.bool true))]⟩
def o255 (P:Params):Obj:=⟨.type "super",none,.fields #[.ref 221,.ref 221,.ref 221],#[]⟩
def o256 (P:Params):Obj:=⟨.type "builtin_function_or_method",none,.fields #[.builtin "object.__init_subclass__",.ref 221],#[]⟩
def o257 (P:Params):Obj:=⟨.type "tuple",none,.seq #[] 0,#[]⟩
def o258 (P:Params):Obj:=⟨.none,none,.fields #[],#[]⟩
def o259 (P:Params):Obj:=⟨.none,none,.func ⟨"is_name","is_name",defArgs (tp 22),.stmts (defBody (tp 22)),defScope (tp 22),0,[],.none,.none,.none,.none,none,.none,.none,0⟩,#[]⟩
def o260 (P:Params):Obj:=⟨.type "code",none,.fields #[.str "is_name" 477,.str "is_name" 478,.str "/claim/cut.py" 479,.int 48 0,.int 1 0,.int 0 0,.int 0 0,.int 3 0,.ref 224,.bool true,.int 181 0,.ref 225,.none,.none,.none,.ref 226,.int 480 0,.int 48 0,.str "/claim/cut.py" 481],#[]⟩
def o261 (P:Params):Obj:=⟨.type "function",none,.func ⟨"is_name","is_name",defArgs (tp 22),.stmts (defBody (tp 22)),defScope (tp 22),3,[],.none,.none,.none,.str "roomward.deeds" 467,none,.ref 227,.none,0⟩,#[]⟩
def o262 (P:Params):Obj:=⟨.type "tuple",none,.seq #[] 0,#[]⟩
def o263 (P:Params):Obj:=⟨.none,none,.fields #[],#[]⟩
def o264 (P:Params):Obj:=⟨.type "tuple",none,.seq #[.str "names" 486,.str "ahead" 487,.str "name" 488] 0,#[]⟩
def o265 (P:Params):Obj:=⟨.type "tuple",none,.seq #[] 0,#[]⟩
def o266 (P:Params):Obj:=⟨.none,none,.func ⟨"refuse_names","refuse_names",defArgs (tp 23),.stmts (defBody (tp 23)),defScope (tp 23),0,[],.none,.none,.none,.none,none,.none,.none,0⟩,#[]⟩
def o267 (P:Params):Obj:=⟨.type "code",none,.fields #[.str "refuse_names" 483,.str "refuse_names" 484,.str "/claim/cut.py" 485,.int 53 0,.int 1 0,.int 0 0,.int 0 0,.int 3 0,.ref 229,.bool true,.int 181 0,.ref 230,.none,.ref 231,.ref 232,.ref 233,.int 489 0,.int 53 0,.str "/claim/cut.py" 490],#[]⟩
def o268 (P:Params):Obj:=⟨.type "function",none,.func ⟨"refuse_names","refuse_names",defArgs (tp 23),.stmts (defBody (tp 23)),defScope (tp 23),3,[],.none,.none,.none,.str "roomward.deeds" 467,none,.ref 234,.none,0⟩,#[]⟩
def o269 (P:Params):Obj:=⟨.type "tuple",none,.seq #[] 0,#[]⟩
def o270 (P:Params):Obj:=⟨.none,none,.fields #[],#[]⟩
def o271 (P:Params):Obj:=⟨.type "tuple",none,.seq #[.str "names" 495,.str "weights" 496,.str "weight" 497,.str "name" 498] 0,#[]⟩
def o272 (P:Params):Obj:=⟨.type "tuple",none,.seq #[] 0,#[]⟩
def o273 (P:Params):Obj:=⟨.none,none,.func ⟨"weights_of","weights_of",defArgs (tp 24),.stmts (defBody (tp 24)),defScope (tp 24),0,[],.none,.none,.none,.none,none,.none,.none,0⟩,#[]⟩
def o274 (P:Params):Obj:=⟨.type "code",none,.fields #[.str "weights_of" 492,.str "weights_of" 493,.str "/claim/cut.py" 494,.int 63 0,.int 1 0,.int 0 0,.int 0 0,.int 3 0,.ref 236,.bool true,.int 181 0,.ref 237,.none,.ref 238,.ref 239,.ref 240,.int 499 0,.int 63 0,.str "/claim/cut.py" 500],#[]⟩
def o275 (P:Params):Obj:=⟨.type "function",none,.func ⟨"weights_of","weights_of",defArgs (tp 24),.stmts (defBody (tp 24)),defScope (tp 24),3,[],.none,.none,.none,.str "roomward.deeds" 467,none,.ref 241,.none,0⟩,#[]⟩
noncomputable def T15 (P:Params):BT:=(bn (boot_o_0 P) (bn (boot_o_1 P) (bn (o235 P) (bn (boot_o_7 P) (bn (o6 P) (bn (o237 P) (bn (o63 P) (be (o142 P)) (be (o221 P))) (bn (o104 P) (be (o183 P)) (be (o256 P)))) (bn (o44 P) (bn (o82 P) (be (o164 P)) (be (o240 P))) (bn (o123 P) (be (o202 P)) (be (o272 P))))) (bn (o14 P) (bn (o33 P) (bn (o74 P) (be (o153 P)) (be (o229 P))) (bn (o112 P) (be (o194 P)) (be (o264 P)))) (bn (o52 P) (bn (o93 P) (be (o172 P)) (be (o248 P))) (bn (o134 P) (be (o210 P)) bz)))) (bn (o0 P) (bn (o10 P) (bn (o29 P) (bn (o67 P) (be (o149 P)) (be (o225 P))) (bn (o108 P) (be (o187 P)) (be (o260 P)))) (bn (o48 P) (bn (o89 P) (be (o168 P)) (be (o244 P))) (bn (o127 P) (be (o206 P)) bz))) (bn (o18 P) (bn (o37 P) (bn (o78 P) (be (o157 P)) (be (o233 P))) (bn (o119 P) (be (o198 P)) (be (o268 P)))) (bn (o59 P) (bn (o97 P) (be (o179 P)) (be (o252 P))) (bn (o138 P) (be (o217 P)) bz))))) (bn (boot_o_5 P) (bn (boot_o_9 P) (bn (o8 P) (bn (o24 P) (bn (o65 P) (be (o144 P)) (be (o223 P))) (bn (o106 P) (be (o185 P)) (be (o258 P)))) (bn (o46 P) (bn (o84 P) (be (o166 P)) (be (o242 P))) (bn (o125 P) (be (o204 P)) (be (o274 P))))) (bn (o16 P) (bn (o35 P) (bn (o76 P) (be (o155 P)) (be (o231 P))) (bn (o114 P) (be (o196 P)) (be (o266 P)))) (bn (o54 P) (bn (o95 P) (be (o174 P)) (be (o250 P))) (bn (o136 P) (be (o212 P)) bz)))) (bn (o2 P) (bn (o12 P) (bn (o31 P) (bn (o69 P) (be (o151 P)) (be (o227 P))) (bn (o110 P) (be (o189 P)) (be (o262 P)))) (bn (o50 P) (bn (o91 P) (be (o170 P)) (be (o246 P))) (bn (o129 P) (be (o208 P)) bz))) (bn (o20 P) (bn (o39 P) (bn (o80 P) (be (o159 P)) (be (o238 P))) (bn (o121 P) (be (o200 P)) (be (o270 P)))) (bn (o61 P) (bn (o99 P) (be (o181 P)) (be (o254 P))) (bn (o140 P) (be (o219 P)) bz)))))) (bn (boot_o_2 P) (bn (boot_o_4 P) (bn (boot_o_8 P) (bn (o7 P) (bn (o23 P) (bn (o64 P) (be (o143 P)) (be (o222 P))) (bn (o105 P) (be (o184 P)) (be (o257 P)))) (bn (o45 P) (bn (o83 P) (be (o165 P)) (be (o241 P))) (bn (o124 P) (be (o203 P)) (be (o273 P))))) (bn (o15 P) (bn (o34 P) (bn (o75 P) (be (o154 P)) (be (o230 P))) (bn (o113 P) (be (o195 P)) (be (o265 P)))) (bn (o53 P) (bn (o94 P) (be (o173 P)) (be (o249 P))) (bn (o135 P) (be (o211 P)) bz)))) (bn (o236 P) (bn (o11 P) (bn (o30 P) (bn (o68 P) (be (o150 P)) (be (o226 P))) (bn (o109 P) (be (o188 P)) (be (o261 P)))) (bn (o49 P) (bn (o90 P) (be (o169 P)) (be (o245 P))) (bn (o128 P) (be (o207 P)) bz))) (bn (o19 P) (bn (o38 P) (bn (o79 P) (be (o158 P)) (be (o234 P))) (bn (o120 P) (be (o199 P)) (be (o269 P)))) (bn (o60 P) (bn (o98 P) (be (o180 P)) (be (o253 P))) (bn (o139 P) (be (o218 P)) bz))))) (bn (boot_o_6 P) (bn (boot_o_10 P) (bn (o9 P) (bn (o25 P) (bn (o66 P) (be (o145 P)) (be (o224 P))) (bn (o107 P) (be (o186 P)) (be (o259 P)))) (bn (o47 P) (bn (o85 P) (be (o167 P)) (be (o243 P))) (bn (o126 P) (be (o205 P)) (be (o275 P))))) (bn (o17 P) (bn (o36 P) (bn (o77 P) (be (o156 P)) (be (o232 P))) (bn (o115 P) (be (o197 P)) (be (o267 P)))) (bn (o55 P) (bn (o96 P) (be (o175 P)) (be (o251 P))) (bn (o137 P) (be (o216 P)) bz)))) (bn (o3 P) (bn (o13 P) (bn (o32 P) (bn (o70 P) (be (o152 P)) (be (o228 P))) (bn (o111 P) (be (o190 P)) (be (o263 P)))) (bn (o51 P) (bn (o92 P) (be (o171 P)) (be (o247 P))) (bn (o130 P) (be (o209 P)) bz))) (bn (o21 P) (bn (o40 P) (bn (o81 P) (be (o160 P)) (be (o239 P))) (bn (o122 P) (be (o201 P)) (be (o271 P)))) (bn (o62 P) (bn (o100 P) (be (o182 P)) (be (o255 P))) (bn (o141 P) (be (o220 P)) bz)))))))
theorem pc15:Hd.Pc pp env T14 205 442 T15 243 502 380 [tp 16,tp 17,tp 18,tp 19,tp 20,tp 21,tp 22,tp 23,tp 24] ⟨35,0,38,22⟩ ⟨63,0,69,18⟩:=by
 intro w
 kernel_rfl
def o276 (P:Params):Obj:=⟨.type "dict",none,.dict #[en P "__name__" 165 (.str "roomward.deeds" 467),en P "__doc__" 166 .none,en P "__package__" 167 .none,en P "__loader__" 168 (.builtin "__main__.__loader__#opaque"),en P "__spec__" 169 .none,en P "__annotations__" 170 (.ref 6),en P "__builtins__" 171 (.ref 4),en P "__file__" 173 (.str "/claim/cut.py" 172),en P "__cached__" 174 .none,en P "_wall" 193 (.ref 21),en P "WardError" 213 (.ref 31),en P "NoName" 229 (.ref 44),en P "NoDeed" 245 (.ref 56),en P "NoRoom" 261 (.ref 68),en P "TwiceTold" 277 (.ref 80),en P "TooMany" 293 (.ref 92),en P "NoRule" 309 (.ref 104),en P "NoRow" 325 (.ref 116),en P "NoHold" 341 (.ref 128),en P "NoHolder" 357 (.ref 140),en P "FreeDeed" 373 (.ref 152),en P "NotNow" 389 (.ref 164),en P "NoWarden" 416 (.ref 183),en P "NoText" 441 (.ref 202),en P "NoBook" 466 (.ref 221),en P "LETTERS" 470 (.str "abcdefghijklmnopqrstuvwxyz" 469),en P "FIGURES" 472 (.str "0123456789" 471),en P "MOST_SIGNS" 474 (.int 8 473),en P "MOST_DEEDS" 476 (.int 12 475),en P "is_name" 482 (.ref 228),en P "refuse_names" 491 (.ref 235),en P "weights_of" 501 (.ref 242),en P "marks_of" 510 (.ref 249)] 33,#[]⟩
def o277 (P:Params):Obj:=⟨.none,none,.fields #[.int 1 0,.int 0 0,.ref 20,.int 5 0,.int 0 0,.ref 27,.int 7 0,.int 0 0,.ref 40,.int 9 0,.int 0 0,.ref 52,.int 11 0,.int 0 0,.ref 64,.int 13 0,.int 0 0,.ref 76,.int 15 0,.int 0 0,.ref 88,.int 17 0,.int 0 0,.ref 100,.int 19 0,.int 0 0,.ref 112,.int 21 0,.int 0 0,.ref 124,.int 23 0,.int 0 0,.ref 136,.int 25 0,.int 0 0,.ref 148,.int 27 0,.int 0 0,.ref 160,.int 29 0,.int 0 0,.ref 172,.int 35 0,.int 0 0,.ref 191,.int 39 0,.int 0 0,.ref 210,.int 48 0,.int 0 0,.ref 227,.int 53 0,.int 0 0,.ref 234,.int 63 0,.int 0 0,.ref 241,.int 70 0,.int 0 0,.ref 248],#[]⟩
def o278 (P:Params):Obj:=⟨.type "tuple",none,.seq #[] 0,#[]⟩
def o279 (P:Params):Obj:=⟨.none,none,.fields #[],#[]⟩
def o280 (P:Params):Obj:=⟨.type "tuple",none,.seq #[.str "names" 505,.str "marks" 506,.str "name" 507] 0,#[]⟩
def o281 (P:Params):Obj:=⟨.type "tuple",none,.seq #[] 0,#[]⟩
def o282 (P:Params):Obj:=⟨.none,none,.func ⟨"marks_of","marks_of",defArgs (tp 25),.stmts (defBody (tp 25)),defScope (tp 25),0,[],.none,.none,.none,.none,none,.none,.none,0⟩,#[]⟩
def o283 (P:Params):Obj:=⟨.type "code",none,.fields #[.str "marks_of" 502,.str "marks_of" 503,.str "/claim/cut.py" 504,.int 70 0,.int 1 0,.int 0 0,.int 0 0,.int 3 0,.ref 243,.bool true,.int 181 0,.ref 244,.none,.ref 245,.ref 246,.ref 247,.int 508 0,.int 70 0,.str "/claim/cut.py" 509],#[]⟩
def o284 (P:Params):Obj:=⟨.type "function",none,.func ⟨"marks_of","marks_of",defArgs (tp 25),.stmts (defBody (tp 25)),defScope (tp 25),3,[],.none,.none,.none,.str "roomward.deeds" 467,none,.ref 248,.none,0⟩,#[]⟩
noncomputable def T16 (P:Params):BT:=(bn (boot_o_0 P) (bn (boot_o_1 P) (bn (o276 P) (bn (boot_o_7 P) (bn (o6 P) (bn (o237 P) (bn (o63 P) (be (o142 P)) (be (o221 P))) (bn (o104 P) (be (o183 P)) (be (o256 P)))) (bn (o44 P) (bn (o82 P) (be (o164 P)) (be (o240 P))) (bn (o123 P) (be (o202 P)) (be (o272 P))))) (bn (o14 P) (bn (o33 P) (bn (o74 P) (be (o153 P)) (be (o229 P))) (bn (o112 P) (be (o194 P)) (be (o264 P)))) (bn (o52 P) (bn (o93 P) (be (o172 P)) (be (o248 P))) (bn (o134 P) (be (o210 P)) (be (o282 P)))))) (bn (o0 P) (bn (o10 P) (bn (o29 P) (bn (o67 P) (be (o149 P)) (be (o225 P))) (bn (o108 P) (be (o187 P)) (be (o260 P)))) (bn (o48 P) (bn (o89 P) (be (o168 P)) (be (o244 P))) (bn (o127 P) (be (o206 P)) (be (o278 P))))) (bn (o18 P) (bn (o37 P) (bn (o78 P) (be (o157 P)) (be (o233 P))) (bn (o119 P) (be (o198 P)) (be (o268 P)))) (bn (o59 P) (bn (o97 P) (be (o179 P)) (be (o252 P))) (bn (o138 P) (be (o217 P)) bz))))) (bn (boot_o_5 P) (bn (boot_o_9 P) (bn (o8 P) (bn (o24 P) (bn (o65 P) (be (o144 P)) (be (o223 P))) (bn (o106 P) (be (o185 P)) (be (o258 P)))) (bn (o46 P) (bn (o84 P) (be (o166 P)) (be (o242 P))) (bn (o125 P) (be (o204 P)) (be (o274 P))))) (bn (o16 P) (bn (o35 P) (bn (o76 P) (be (o155 P)) (be (o231 P))) (bn (o114 P) (be (o196 P)) (be (o266 P)))) (bn (o54 P) (bn (o95 P) (be (o174 P)) (be (o250 P))) (bn (o136 P) (be (o212 P)) (be (o284 P)))))) (bn (o2 P) (bn (o12 P) (bn (o31 P) (bn (o69 P) (be (o151 P)) (be (o227 P))) (bn (o110 P) (be (o189 P)) (be (o262 P)))) (bn (o50 P) (bn (o91 P) (be (o170 P)) (be (o246 P))) (bn (o129 P) (be (o208 P)) (be (o280 P))))) (bn (o20 P) (bn (o39 P) (bn (o80 P) (be (o159 P)) (be (o238 P))) (bn (o121 P) (be (o200 P)) (be (o270 P)))) (bn (o61 P) (bn (o99 P) (be (o181 P)) (be (o254 P))) (bn (o140 P) (be (o219 P)) bz)))))) (bn (boot_o_2 P) (bn (boot_o_4 P) (bn (boot_o_8 P) (bn (o7 P) (bn (o23 P) (bn (o64 P) (be (o143 P)) (be (o222 P))) (bn (o105 P) (be (o184 P)) (be (o257 P)))) (bn (o45 P) (bn (o83 P) (be (o165 P)) (be (o241 P))) (bn (o124 P) (be (o203 P)) (be (o273 P))))) (bn (o15 P) (bn (o34 P) (bn (o75 P) (be (o154 P)) (be (o230 P))) (bn (o113 P) (be (o195 P)) (be (o265 P)))) (bn (o53 P) (bn (o94 P) (be (o173 P)) (be (o249 P))) (bn (o135 P) (be (o211 P)) (be (o283 P)))))) (bn (o277 P) (bn (o11 P) (bn (o30 P) (bn (o68 P) (be (o150 P)) (be (o226 P))) (bn (o109 P) (be (o188 P)) (be (o261 P)))) (bn (o49 P) (bn (o90 P) (be (o169 P)) (be (o245 P))) (bn (o128 P) (be (o207 P)) (be (o279 P))))) (bn (o19 P) (bn (o38 P) (bn (o79 P) (be (o158 P)) (be (o234 P))) (bn (o120 P) (be (o199 P)) (be (o269 P)))) (bn (o60 P) (bn (o98 P) (be (o180 P)) (be (o253 P))) (bn (o139 P) (be (o218 P)) bz))))) (bn (boot_o_6 P) (bn (boot_o_10 P) (bn (o9 P) (bn (o25 P) (bn (o66 P) (be (o145 P)) (be (o224 P))) (bn (o107 P) (be (o186 P)) (be (o259 P)))) (bn (o47 P) (bn (o85 P) (be (o167 P)) (be (o243 P))) (bn (o126 P) (be (o205 P)) (be (o275 P))))) (bn (o17 P) (bn (o36 P) (bn (o77 P) (be (o156 P)) (be (o232 P))) (bn (o115 P) (be (o197 P)) (be (o267 P)))) (bn (o55 P) (bn (o96 P) (be (o175 P)) (be (o251 P))) (bn (o137 P) (be (o216 P)) bz)))) (bn (o3 P) (bn (o13 P) (bn (o32 P) (bn (o70 P) (be (o152 P)) (be (o228 P))) (bn (o111 P) (be (o190 P)) (be (o263 P)))) (bn (o51 P) (bn (o92 P) (be (o171 P)) (be (o247 P))) (bn (o130 P) (be (o209 P)) (be (o281 P))))) (bn (o21 P) (bn (o40 P) (bn (o81 P) (be (o160 P)) (be (o239 P))) (bn (o122 P) (be (o201 P)) (be (o271 P)))) (bn (o62 P) (bn (o100 P) (be (o182 P)) (be (o255 P))) (bn (o141 P) (be (o220 P)) bz)))))))
theorem pc16:Hd.Pc pp env T15 243 502 T16 250 511 32 [tp 25] ⟨63,0,69,18⟩ ⟨70,0,74,16⟩:=by
 intro w
 kernel_rfl
def o285 (P:Params):Obj:=⟨.type "dict",none,.dict #[en P "__name__" 165 (.str "roomward.deeds" 467),en P "__doc__" 166 .none,en P "__package__" 167 .none,en P "__loader__" 168 (.builtin "__main__.__loader__#opaque"),en P "__spec__" 169 .none,en P "__annotations__" 170 (.ref 6),en P "__builtins__" 171 (.ref 4),en P "__file__" 173 (.str "/claim/cut.py" 172),en P "__cached__" 174 .none,en P "_wall" 193 (.ref 21),en P "WardError" 213 (.ref 31),en P "NoName" 229 (.ref 44),en P "NoDeed" 245 (.ref 56),en P "NoRoom" 261 (.ref 68),en P "TwiceTold" 277 (.ref 80),en P "TooMany" 293 (.ref 92),en P "NoRule" 309 (.ref 104),en P "NoRow" 325 (.ref 116),en P "NoHold" 341 (.ref 128),en P "NoHolder" 357 (.ref 140),en P "FreeDeed" 373 (.ref 152),en P "NotNow" 389 (.ref 164),en P "NoWarden" 416 (.ref 183),en P "NoText" 441 (.ref 202),en P "NoBook" 466 (.ref 221),en P "LETTERS" 470 (.str "abcdefghijklmnopqrstuvwxyz" 469),en P "FIGURES" 472 (.str "0123456789" 471),en P "MOST_SIGNS" 474 (.int 8 473),en P "MOST_DEEDS" 476 (.int 12 475),en P "is_name" 482 (.ref 228),en P "refuse_names" 491 (.ref 235),en P "weights_of" 501 (.ref 242),en P "marks_of" 510 (.ref 249),en P "Deeds" 597 (.ref 316)] 34,#[]⟩
def o286 (P:Params):Obj:=⟨.none,none,.fields #[.int 1 0,.int 0 0,.ref 20,.int 5 0,.int 0 0,.ref 27,.int 7 0,.int 0 0,.ref 40,.int 9 0,.int 0 0,.ref 52,.int 11 0,.int 0 0,.ref 64,.int 13 0,.int 0 0,.ref 76,.int 15 0,.int 0 0,.ref 88,.int 17 0,.int 0 0,.ref 100,.int 19 0,.int 0 0,.ref 112,.int 21 0,.int 0 0,.ref 124,.int 23 0,.int 0 0,.ref 136,.int 25 0,.int 0 0,.ref 148,.int 27 0,.int 0 0,.ref 160,.int 29 0,.int 0 0,.ref 172,.int 35 0,.int 0 0,.ref 191,.int 39 0,.int 0 0,.ref 210,.int 48 0,.int 0 0,.ref 227,.int 53 0,.int 0 0,.ref 234,.int 63 0,.int 0 0,.ref 241,.int 70 0,.int 0 0,.ref 248,.int 75 0,.int 0 0,.ref 255],#[]⟩
def o287 (P:Params):Obj:=⟨.type "tuple",none,.seq #[] 0,#[]⟩
def o288 (P:Params):Obj:=⟨.type "builtin_function_or_method",none,.fields #[.builtin "type.__prepare__",.type "type"],#[]⟩
def o289 (P:Params):Obj:=⟨.type "dict",none,.dict #[en P "__module__" 518 (.str "roomward.deeds" 467),en P "__qualname__" 520 (.str "Deeds" 519),en P "__firstlineno__" 522 (.int 75 521),en P "__init__" 532 (.ref 264),en P "names" 539 (.ref 271),en P "free" 546 (.ref 278),en P "has" 554 (.ref 285),en P "require" 563 (.ref 292),en P "is_free" 571 (.ref 299),en P "bits" 579 (.ref 306),en P "names_of" 587 (.ref 313),en P "__static_attributes__" 590 (.ref 314)] 12,#[]⟩
def o290 (P:Params):Obj:=⟨.type "tuple",none,.seq #[] 0,#[]⟩
def o291 (P:Params):Obj:=⟨.none,none,.fields #[.int 77 0,.int 4 0,.ref 263,.int 84 0,.int 4 0,.ref 270,.int 87 0,.int 4 0,.ref 277,.int 90 0,.int 4 0,.ref 284,.int 93 0,.int 4 0,.ref 291,.int 98 0,.int 4 0,.ref 298,.int 101 0,.int 4 0,.ref 305,.int 104 0,.int 4 0,.ref 312],#[]⟩
def o292 (P:Params):Obj:=⟨.type "code",none,.fields #[.str "Deeds" 513,.str "Deeds" 514,.str "/claim/cut.py" 515,.int 75 0,.int 0 0,.int 0 0,.int 0 0,.int 0 0,.ref 253,.bool false,.int 181 0,.ref 254,.none,.none,.none,.none,.int 516 0,.int 75 0,.str "/claim/cut.py" 517],#[]⟩
def o293 (P:Params):Obj:=⟨.type "frame",none,.plain,#[(some (.ref 255)),(some (.ref 3)),(some (.ref 252)),none,(some (.str "roomward.deeds" 467)),none,(some (.ref 0))]⟩
def o294 (P:Params):Obj:=⟨.type "tuple",none,.seq #[.none] 0,#[]⟩
def o295 (P:Params):Obj:=⟨.type "tuple",none,.seq #[] 0,#[]⟩
def o296 (P:Params):Obj:=⟨.none,none,.fields #[],#[]⟩
def o297 (P:Params):Obj:=⟨.type "tuple",none,.seq #[.str "self" 526,.str "names" 527,.str "free" 528,.str "free_names" 529] 0,#[]⟩
def o298 (P:Params):Obj:=⟨.type "tuple",none,.seq #[] 0,#[]⟩
def o299 (P:Params):Obj:=⟨.none,none,.func ⟨"__init__","Deeds.__init__",defArgs (inClass (tp 26) 0),.stmts (defBody (inClass (tp 26) 0)),defScope (inClass (tp 26) 0),0,[],.none,.none,.none,.none,none,.none,.none,0⟩,#[]⟩
def o300 (P:Params):Obj:=⟨.type "code",none,.fields #[.str "__init__" 523,.str "Deeds.__init__" 524,.str "/claim/cut.py" 525,.int 77 0,.int 3 0,.int 0 0,.int 0 0,.int 3 0,.ref 258,.bool true,.int 181 0,.ref 259,.none,.ref 260,.ref 261,.ref 262,.int 530 0,.int 77 0,.str "/claim/cut.py" 531],#[]⟩
def o301 (P:Params):Obj:=⟨.type "function",none,.func ⟨"__init__","Deeds.__init__",defArgs (inClass (tp 26) 0),.stmts (defBody (inClass (tp 26) 0)),defScope (inClass (tp 26) 0),3,[],.ref 257,.none,.none,.str "roomward.deeds" 467,none,.ref 263,.none,0⟩,#[]⟩
def o302 (P:Params):Obj:=⟨.type "tuple",none,.seq #[] 0,#[]⟩
def o303 (P:Params):Obj:=⟨.none,none,.fields #[],#[]⟩
def o304 (P:Params):Obj:=⟨.type "tuple",none,.seq #[.str "self" 536] 0,#[]⟩
def o305 (P:Params):Obj:=⟨.type "tuple",none,.seq #[] 0,#[]⟩
def o306 (P:Params):Obj:=⟨.none,none,.func ⟨"names","Deeds.names",defArgs (inClass (tp 26) 1),.stmts (defBody (inClass (tp 26) 1)),defScope (inClass (tp 26) 1),0,[],.none,.none,.none,.none,none,.none,.none,0⟩,#[]⟩
def o307 (P:Params):Obj:=⟨.type "code",none,.fields #[.str "names" 533,.str "Deeds.names" 534,.str "/claim/cut.py" 535,.int 84 0,.int 1 0,.int 0 0,.int 0 0,.int 3 0,.ref 265,.bool true,.int 181 0,.ref 266,.none,.ref 267,.ref 268,.ref 269,.int 537 0,.int 84 0,.str "/claim/cut.py" 538],#[]⟩
def o308 (P:Params):Obj:=⟨.type "function",none,.func ⟨"names","Deeds.names",defArgs (inClass (tp 26) 1),.stmts (defBody (inClass (tp 26) 1)),defScope (inClass (tp 26) 1),3,[],.none,.none,.none,.str "roomward.deeds" 467,none,.ref 270,.none,0⟩,#[]⟩
def o309 (P:Params):Obj:=⟨.type "tuple",none,.seq #[] 0,#[]⟩
def o310 (P:Params):Obj:=⟨.none,none,.fields #[],#[]⟩
def o311 (P:Params):Obj:=⟨.type "tuple",none,.seq #[.str "self" 543] 0,#[]⟩
def o312 (P:Params):Obj:=⟨.type "tuple",none,.seq #[] 0,#[]⟩
def o313 (P:Params):Obj:=⟨.none,none,.func ⟨"free","Deeds.free",defArgs (inClass (tp 26) 2),.stmts (defBody (inClass (tp 26) 2)),defScope (inClass (tp 26) 2),0,[],.none,.none,.none,.none,none,.none,.none,0⟩,#[]⟩
def o314 (P:Params):Obj:=⟨.type "code",none,.fields #[.str "free" 540,.str "Deeds.free" 541,.str "/claim/cut.py" 542,.int 87 0,.int 1 0,.int 0 0,.int 0 0,.int 3 0,.ref 272,.bool true,.int 181 0,.ref 273,.none,.ref 274,.ref 275,.ref 276,.int 544 0,.int 87 0,.str "/claim/cut.py" 545],#[]⟩
def o315 (P:Params):Obj:=⟨.type "function",none,.func ⟨"free","Deeds.free",defArgs (inClass (tp 26) 2),.stmts (defBody (inClass (tp 26) 2)),defScope (inClass (tp 26) 2),3,[],.none,.none,.none,.str "roomward.deeds" 467,none,.ref 277,.none,0⟩,#[]⟩
def o316 (P:Params):Obj:=⟨.type "tuple",none,.seq #[] 0,#[]⟩
def o317 (P:Params):Obj:=⟨.none,none,.fields #[],#[]⟩
def o318 (P:Params):Obj:=⟨.type "tuple",none,.seq #[.str "self" 550,.str "thing" 551] 0,#[]⟩
def o319 (P:Params):Obj:=⟨.type "tuple",none,.seq #[] 0,#[]⟩
def o320 (P:Params):Obj:=⟨.none,none,.func ⟨"has","Deeds.has",defArgs (inClass (tp 26) 3),.stmts (defBody (inClass (tp 26) 3)),defScope (inClass (tp 26) 3),0,[],.none,.none,.none,.none,none,.none,.none,0⟩,#[]⟩
def o321 (P:Params):Obj:=⟨.type "code",none,.fields #[.str "has" 547,.str "Deeds.has" 548,.str "/claim/cut.py" 549,.int 90 0,.int 2 0,.int 0 0,.int 0 0,.int 3 0,.ref 279,.bool true,.int 181 0,.ref 280,.none,.ref 281,.ref 282,.ref 283,.int 552 0,.int 90 0,.str "/claim/cut.py" 553],#[]⟩
def o322 (P:Params):Obj:=⟨.type "function",none,.func ⟨"has","Deeds.has",defArgs (inClass (tp 26) 3),.stmts (defBody (inClass (tp 26) 3)),defScope (inClass (tp 26) 3),3,[],.none,.none,.none,.str "roomward.deeds" 467,none,.ref 284,.none,0⟩,#[]⟩
def o323 (P:Params):Obj:=⟨.type "tuple",none,.seq #[] 0,#[]⟩
def o324 (P:Params):Obj:=⟨.none,none,.fields #[],#[]⟩
def o325 (P:Params):Obj:=⟨.type "tuple",none,.seq #[.str "self" 558,.str "row" 559,.str "deed" 560] 0,#[]⟩
def o326 (P:Params):Obj:=⟨.type "tuple",none,.seq #[] 0,#[]⟩
def o327 (P:Params):Obj:=⟨.none,none,.func ⟨"require","Deeds.require",defArgs (inClass (tp 26) 4),.stmts (defBody (inClass (tp 26) 4)),defScope (inClass (tp 26) 4),0,[],.none,.none,.none,.none,none,.none,.none,0⟩,#[]⟩
def o328 (P:Params):Obj:=⟨.type "code",none,.fields #[.str "require" 555,.str "Deeds.require" 556,.str "/claim/cut.py" 557,.int 93 0,.int 2 0,.int 0 0,.int 0 0,.int 3 0,.ref 286,.bool true,.int 181 0,.ref 287,.none,.ref 288,.ref 289,.ref 290,.int 561 0,.int 93 0,.str "/claim/cut.py" 562],#[]⟩
def o329 (P:Params):Obj:=⟨.type "function",none,.func ⟨"require","Deeds.require",defArgs (inClass (tp 26) 4),.stmts (defBody (inClass (tp 26) 4)),defScope (inClass (tp 26) 4),3,[],.none,.none,.none,.str "roomward.deeds" 467,none,.ref 291,.none,0⟩,#[]⟩
def o330 (P:Params):Obj:=⟨.type "tuple",none,.seq #[] 0,#[]⟩
def o331 (P:Params):Obj:=⟨.none,none,.fields #[],#[]⟩
def o332 (P:Params):Obj:=⟨.type "tuple",none,.seq #[.str "self" 567,.str "deed" 568] 0,#[]⟩
def o333 (P:Params):Obj:=⟨.type "tuple",none,.seq #[] 0,#[]⟩
def o334 (P:Params):Obj:=⟨.none,none,.func ⟨"is_free","Deeds.is_free",defArgs (inClass (tp 26) 5),.stmts (defBody (inClass (tp 26) 5)),defScope (inClass (tp 26) 5),0,[],.none,.none,.none,.none,none,.none,.none,0⟩,#[]⟩
def o335 (P:Params):Obj:=⟨.type "code",none,.fields #[.str "is_free" 564,.str "Deeds.is_free" 565,.str "/claim/cut.py" 566,.int 98 0,.int 2 0,.int 0 0,.int 0 0,.int 3 0,.ref 293,.bool true,.int 181 0,.ref 294,.none,.ref 295,.ref 296,.ref 297,.int 569 0,.int 98 0,.str "/claim/cut.py" 570],#[]⟩
def o336 (P:Params):Obj:=⟨.type "function",none,.func ⟨"is_free","Deeds.is_free",defArgs (inClass (tp 26) 5),.stmts (defBody (inClass (tp 26) 5)),defScope (inClass (tp 26) 5),3,[],.none,.none,.none,.str "roomward.deeds" 467,none,.ref 298,.none,0⟩,#[]⟩
def o337 (P:Params):Obj:=⟨.type "tuple",none,.seq #[] 0,#[]⟩
def o338 (P:Params):Obj:=⟨.none,none,.fields #[],#[]⟩
def o339 (P:Params):Obj:=⟨.type "tuple",none,.seq #[.str "self" 575,.str "names" 576] 0,#[]⟩
def o340 (P:Params):Obj:=⟨.type "tuple",none,.seq #[] 0,#[]⟩
def o341 (P:Params):Obj:=⟨.none,none,.func ⟨"bits","Deeds.bits",defArgs (inClass (tp 26) 6),.stmts (defBody (inClass (tp 26) 6)),defScope (inClass (tp 26) 6),0,[],.none,.none,.none,.none,none,.none,.none,0⟩,#[]⟩
def o342 (P:Params):Obj:=⟨.type "code",none,.fields #[.str "bits" 572,.str "Deeds.bits" 573,.str "/claim/cut.py" 574,.int 101 0,.int 2 0,.int 0 0,.int 0 0,.int 3 0,.ref 300,.bool true,.int 181 0,.ref 301,.none,.ref 302,.ref 303,.ref 304,.int 577 0,.int 101 0,.str "/claim/cut.py" 578],#[]⟩
def o343 (P:Params):Obj:=⟨.type "function",none,.func ⟨"bits","Deeds.bits",defArgs (inClass (tp 26) 6),.stmts (defBody (inClass (tp 26) 6)),defScope (inClass (tp 26) 6),3,[],.none,.none,.none,.str "roomward.deeds" 467,none,.ref 305,.none,0⟩,#[]⟩
def o344 (P:Params):Obj:=⟨.type "tuple",none,.seq #[] 0,#[]⟩
def o345 (P:Params):Obj:=⟨.none,none,.fields #[],#[]⟩
def o346 (P:Params):Obj:=⟨.type "tuple",none,.seq #[.str "self" 583,.str "bits" 584] 0,#[]⟩
def o347 (P:Params):Obj:=⟨.type "tuple",none,.seq #[] 0,#[]⟩
def o348 (P:Params):Obj:=⟨.none,none,.func ⟨"names_of","Deeds.names_of",defArgs (inClass (tp 26) 7),.stmts (defBody (inClass (tp 26) 7)),defScope (inClass (tp 26) 7),0,[],.none,.none,.none,.none,none,.none,.none,0⟩,#[]⟩
def o349 (P:Params):Obj:=⟨.type "code",none,.fields #[.str "names_of" 580,.str "Deeds.names_of" 581,.str "/claim/cut.py" 582,.int 104 0,.int 2 0,.int 0 0,.int 0 0,.int 3 0,.ref 307,.bool true,.int 181 0,.ref 308,.none,.ref 309,.ref 310,.ref 311,.int 585 0,.int 104 0,.str "/claim/cut.py" 586],#[]⟩
def o350 (P:Params):Obj:=⟨.type "function",none,.func ⟨"names_of","Deeds.names_of",defArgs (inClass (tp 26) 7),.stmts (defBody (inClass (tp 26) 7)),defScope (inClass (tp 26) 7),3,[],.none,.none,.none,.str "roomward.deeds" 467,none,.ref 312,.none,0⟩,#[]⟩
def o351 (P:Params):Obj:=⟨.type "tuple",none,.seq #[.str "free_marks" 588,.str "weights" 589] 0,#[]⟩
def o352 (P:Params):Obj:=⟨.type "dict",none,.dict #[en P "__module__" 518 (.str "roomward.deeds" 467),en P "__firstlineno__" 522 (.int 75 521),en P "__init__" 532 (.ref 264),en P "names" 539 (.ref 271),en P "free" 546 (.ref 278),en P "has" 554 (.ref 285),en P "require" 563 (.ref 292),en P "is_free" 571 (.ref 299),en P "bits" 579 (.ref 306),en P "names_of" 587 (.ref 313),en P "__static_attributes__" 590 (.ref 314),en P "__dict__" 592 (.ref 317),en P "__weakref__" 594 (.ref 318),en P "__doc__" 595 .none] 4,#[]⟩
def o353 (P:Params):Obj:=⟨.type "type",none,.cls ⟨"Deeds",[.type "object"],[.ref 316,.type "object"],315,"Deeds",true,[],[],false,none,false⟩,#[none,none,(some (.str "Deeds" 511)),(some (.str "Deeds" 519)),(some (.builtin "object.__new__")),(some (.bool true))]⟩
def o354 (P:Params):Obj:=⟨.type "getset_descriptor",none,.fields #[.str "__dict__" 591,.ref 316,.builtin "function.__dict__",.builtin "function.__dict__#set"],#[]⟩
def o355 (P:Params):Obj:=⟨.type "getset_descriptor",none,.fields #[.str "__weakref__" 593,.ref 316,.builtin "ExceptionGroup.__weakref__",.none],#[]⟩
def o356 (P:Params):Obj:=⟨.type "super",none,.fields #[.ref 316,.ref 316,.ref 316],#[]⟩
def o357 (P:Params):Obj:=⟨.type "builtin_function_or_method",none,.fields #[.builtin "object.__init_subclass__",.ref 316],#[]⟩
noncomputable def T17 (P:Params):BT:=(bn (boot_o_0 P) (bn (boot_o_1 P) (bn (o285 P) (bn (boot_o_7 P) (bn (o6 P) (bn (o237 P) (bn (o63 P) (bn (o142 P) (be (o292 P)) bz) (bn (o221 P) (be (o356 P)) bz)) (bn (o104 P) (bn (o183 P) (be (o324 P)) bz) (be (o256 P)))) (bn (o44 P) (bn (o82 P) (bn (o164 P) (be (o308 P)) bz) (be (o240 P))) (bn (o123 P) (bn (o202 P) (be (o340 P)) bz) (be (o272 P))))) (bn (o14 P) (bn (o33 P) (bn (o74 P) (bn (o153 P) (be (o300 P)) bz) (be (o229 P))) (bn (o112 P) (bn (o194 P) (be (o332 P)) bz) (be (o264 P)))) (bn (o52 P) (bn (o93 P) (bn (o172 P) (be (o316 P)) bz) (be (o248 P))) (bn (o134 P) (bn (o210 P) (be (o348 P)) bz) (be (o282 P)))))) (bn (o0 P) (bn (o10 P) (bn (o29 P) (bn (o67 P) (bn (o149 P) (be (o296 P)) bz) (be (o225 P))) (bn (o108 P) (bn (o187 P) (be (o328 P)) bz) (be (o260 P)))) (bn (o48 P) (bn (o89 P) (bn (o168 P) (be (o312 P)) bz) (be (o244 P))) (bn (o127 P) (bn (o206 P) (be (o344 P)) bz) (be (o278 P))))) (bn (o18 P) (bn (o37 P) (bn (o78 P) (bn (o157 P) (be (o304 P)) bz) (be (o233 P))) (bn (o119 P) (bn (o198 P) (be (o336 P)) bz) (be (o268 P)))) (bn (o59 P) (bn (o97 P) (bn (o179 P) (be (o320 P)) bz) (be (o252 P))) (bn (o138 P) (bn (o217 P) (be (o352 P)) bz) (be (o288 P))))))) (bn (boot_o_5 P) (bn (boot_o_9 P) (bn (o8 P) (bn (o24 P) (bn (o65 P) (bn (o144 P) (be (o294 P)) bz) (be (o223 P))) (bn (o106 P) (bn (o185 P) (be (o326 P)) bz) (be (o258 P)))) (bn (o46 P) (bn (o84 P) (bn (o166 P) (be (o310 P)) bz) (be (o242 P))) (bn (o125 P) (bn (o204 P) (be (o342 P)) bz) (be (o274 P))))) (bn (o16 P) (bn (o35 P) (bn (o76 P) (bn (o155 P) (be (o302 P)) bz) (be (o231 P))) (bn (o114 P) (bn (o196 P) (be (o334 P)) bz) (be (o266 P)))) (bn (o54 P) (bn (o95 P) (bn (o174 P) (be (o318 P)) bz) (be (o250 P))) (bn (o136 P) (bn (o212 P) (be (o350 P)) bz) (be (o284 P)))))) (bn (o2 P) (bn (o12 P) (bn (o31 P) (bn (o69 P) (bn (o151 P) (be (o298 P)) bz) (be (o227 P))) (bn (o110 P) (bn (o189 P) (be (o330 P)) bz) (be (o262 P)))) (bn (o50 P) (bn (o91 P) (bn (o170 P) (be (o314 P)) bz) (be (o246 P))) (bn (o129 P) (bn (o208 P) (be (o346 P)) bz) (be (o280 P))))) (bn (o20 P) (bn (o39 P) (bn (o80 P) (bn (o159 P) (be (o306 P)) bz) (be (o238 P))) (bn (o121 P) (bn (o200 P) (be (o338 P)) bz) (be (o270 P)))) (bn (o61 P) (bn (o99 P) (bn (o181 P) (be (o322 P)) bz) (be (o254 P))) (bn (o140 P) (bn (o219 P) (be (o354 P)) bz) (be (o290 P)))))))) (bn (boot_o_2 P) (bn (boot_o_4 P) (bn (boot_o_8 P) (bn (o7 P) (bn (o23 P) (bn (o64 P) (bn (o143 P) (be (o293 P)) bz) (bn (o222 P) (be (o357 P)) bz)) (bn (o105 P) (bn (o184 P) (be (o325 P)) bz) (be (o257 P)))) (bn (o45 P) (bn (o83 P) (bn (o165 P) (be (o309 P)) bz) (be (o241 P))) (bn (o124 P) (bn (o203 P) (be (o341 P)) bz) (be (o273 P))))) (bn (o15 P) (bn (o34 P) (bn (o75 P) (bn (o154 P) (be (o301 P)) bz) (be (o230 P))) (bn (o113 P) (bn (o195 P) (be (o333 P)) bz) (be (o265 P)))) (bn (o53 P) (bn (o94 P) (bn (o173 P) (be (o317 P)) bz) (be (o249 P))) (bn (o135 P) (bn (o211 P) (be (o349 P)) bz) (be (o283 P)))))) (bn (o286 P) (bn (o11 P) (bn (o30 P) (bn (o68 P) (bn (o150 P) (be (o297 P)) bz) (be (o226 P))) (bn (o109 P) (bn (o188 P) (be (o329 P)) bz) (be (o261 P)))) (bn (o49 P) (bn (o90 P) (bn (o169 P) (be (o313 P)) bz) (be (o245 P))) (bn (o128 P) (bn (o207 P) (be (o345 P)) bz) (be (o279 P))))) (bn (o19 P) (bn (o38 P) (bn (o79 P) (bn (o158 P) (be (o305 P)) bz) (be (o234 P))) (bn (o120 P) (bn (o199 P) (be (o337 P)) bz) (be (o269 P)))) (bn (o60 P) (bn (o98 P) (bn (o180 P) (be (o321 P)) bz) (be (o253 P))) (bn (o139 P) (bn (o218 P) (be (o353 P)) bz) (be (o289 P))))))) (bn (boot_o_6 P) (bn (boot_o_10 P) (bn (o9 P) (bn (o25 P) (bn (o66 P) (bn (o145 P) (be (o295 P)) bz) (be (o224 P))) (bn (o107 P) (bn (o186 P) (be (o327 P)) bz) (be (o259 P)))) (bn (o47 P) (bn (o85 P) (bn (o167 P) (be (o311 P)) bz) (be (o243 P))) (bn (o126 P) (bn (o205 P) (be (o343 P)) bz) (be (o275 P))))) (bn (o17 P) (bn (o36 P) (bn (o77 P) (bn (o156 P) (be (o303 P)) bz) (be (o232 P))) (bn (o115 P) (bn (o197 P) (be (o335 P)) bz) (be (o267 P)))) (bn (o55 P) (bn (o96 P) (bn (o175 P) (be (o319 P)) bz) (be (o251 P))) (bn (o137 P) (bn (o216 P) (be (o351 P)) bz) (be (o287 P)))))) (bn (o3 P) (bn (o13 P) (bn (o32 P) (bn (o70 P) (bn (o152 P) (be (o299 P)) bz) (be (o228 P))) (bn (o111 P) (bn (o190 P) (be (o331 P)) bz) (be (o263 P)))) (bn (o51 P) (bn (o92 P) (bn (o171 P) (be (o315 P)) bz) (be (o247 P))) (bn (o130 P) (bn (o209 P) (be (o347 P)) bz) (be (o281 P))))) (bn (o21 P) (bn (o40 P) (bn (o81 P) (bn (o160 P) (be (o307 P)) bz) (be (o239 P))) (bn (o122 P) (bn (o201 P) (be (o339 P)) bz) (be (o271 P)))) (bn (o62 P) (bn (o100 P) (bn (o182 P) (be (o323 P)) bz) (be (o255 P))) (bn (o141 P) (bn (o220 P) (be (o355 P)) bz) (be (o291 P)))))))))
theorem pc17:Hd.Pc pp env T16 250 511 T17 321 598 450 [tp 26] ⟨70,0,74,16⟩ ⟨75,0,105,16⟩:=by
 intro w
 kernel_rfl
def o358 (P:Params):Obj:=⟨.type "dict",none,.dict #[en P "__name__" 165 (.str "roomward.machines" 598),en P "__doc__" 166 .none,en P "__package__" 167 .none,en P "__loader__" 168 (.builtin "__main__.__loader__#opaque"),en P "__spec__" 169 .none,en P "__annotations__" 170 (.ref 6),en P "__builtins__" 171 (.ref 4),en P "__file__" 173 (.str "/claim/cut.py" 172),en P "__cached__" 174 .none,en P "_wall" 193 (.ref 21),en P "WardError" 213 (.ref 31),en P "NoName" 229 (.ref 44),en P "NoDeed" 245 (.ref 56),en P "NoRoom" 261 (.ref 68),en P "TwiceTold" 277 (.ref 80),en P "TooMany" 293 (.ref 92),en P "NoRule" 309 (.ref 104),en P "NoRow" 325 (.ref 116),en P "NoHold" 341 (.ref 128),en P "NoHolder" 357 (.ref 140),en P "FreeDeed" 373 (.ref 152),en P "NotNow" 389 (.ref 164),en P "NoWarden" 416 (.ref 183),en P "NoText" 441 (.ref 202),en P "NoBook" 466 (.ref 221),en P "LETTERS" 470 (.str "abcdefghijklmnopqrstuvwxyz" 469),en P "FIGURES" 472 (.str "0123456789" 471),en P "MOST_SIGNS" 474 (.int 8 473),en P "MOST_DEEDS" 476 (.int 12 475),en P "is_name" 482 (.ref 228),en P "refuse_names" 491 (.ref 235),en P "weights_of" 501 (.ref 242),en P "marks_of" 510 (.ref 249),en P "Deeds" 597 (.ref 316),en P "MOST_ROOMS" 601 (.int 60 600),en P "named_rooms" 614 (.ref 327),en P "refuse_rooms" 622 (.ref 334),en P "leads_of" 634 (.ref 341)] 38,#[]⟩
def o359 (P:Params):Obj:=⟨.none,none,.fields #[.int 1 0,.int 0 0,.ref 20,.int 5 0,.int 0 0,.ref 27,.int 7 0,.int 0 0,.ref 40,.int 9 0,.int 0 0,.ref 52,.int 11 0,.int 0 0,.ref 64,.int 13 0,.int 0 0,.ref 76,.int 15 0,.int 0 0,.ref 88,.int 17 0,.int 0 0,.ref 100,.int 19 0,.int 0 0,.ref 112,.int 21 0,.int 0 0,.ref 124,.int 23 0,.int 0 0,.ref 136,.int 25 0,.int 0 0,.ref 148,.int 27 0,.int 0 0,.ref 160,.int 29 0,.int 0 0,.ref 172,.int 35 0,.int 0 0,.ref 191,.int 39 0,.int 0 0,.ref 210,.int 48 0,.int 0 0,.ref 227,.int 53 0,.int 0 0,.ref 234,.int 63 0,.int 0 0,.ref 241,.int 70 0,.int 0 0,.ref 248,.int 75 0,.int 0 0,.ref 255,.int 108 0,.int 0 0,.ref 326,.int 115 0,.int 0 0,.ref 333,.int 119 0,.int 0 0,.ref 340],#[]⟩
def o360 (P:Params):Obj:=⟨.type "tuple",none,.seq #[] 0,#[]⟩
def o361 (P:Params):Obj:=⟨.none,none,.fields #[],#[]⟩
def o362 (P:Params):Obj:=⟨.type "tuple",none,.seq #[.str "begin" 605,.str "ends" 606,.str "doors" 607,.str "rooms" 608,.str "room" 609,.str "deed" 610,.str "far" 611] 0,#[]⟩
def o363 (P:Params):Obj:=⟨.type "tuple",none,.seq #[] 0,#[]⟩
def o364 (P:Params):Obj:=⟨.none,none,.func ⟨"named_rooms","named_rooms",defArgs (tp 29),.stmts (defBody (tp 29)),defScope (tp 29),0,[],.none,.none,.none,.none,none,.none,.none,0⟩,#[]⟩
def o365 (P:Params):Obj:=⟨.type "code",none,.fields #[.str "named_rooms" 602,.str "named_rooms" 603,.str "/claim/cut.py" 604,.int 108 0,.int 3 0,.int 0 0,.int 0 0,.int 3 0,.ref 321,.bool true,.int 181 0,.ref 322,.none,.ref 323,.ref 324,.ref 325,.int 612 0,.int 108 0,.str "/claim/cut.py" 613],#[]⟩
def o366 (P:Params):Obj:=⟨.type "function",none,.func ⟨"named_rooms","named_rooms",defArgs (tp 29),.stmts (defBody (tp 29)),defScope (tp 29),3,[],.none,.none,.none,.str "roomward.machines" 598,none,.ref 326,.none,0⟩,#[]⟩
def o367 (P:Params):Obj:=⟨.type "tuple",none,.seq #[] 0,#[]⟩
def o368 (P:Params):Obj:=⟨.none,none,.fields #[],#[]⟩
def o369 (P:Params):Obj:=⟨.type "tuple",none,.seq #[.str "rooms" 618,.str "room" 619] 0,#[]⟩
def o370 (P:Params):Obj:=⟨.type "tuple",none,.seq #[] 0,#[]⟩
def o371 (P:Params):Obj:=⟨.none,none,.func ⟨"refuse_rooms","refuse_rooms",defArgs (tp 30),.stmts (defBody (tp 30)),defScope (tp 30),0,[],.none,.none,.none,.none,none,.none,.none,0⟩,#[]⟩
def o372 (P:Params):Obj:=⟨.type "code",none,.fields #[.str "refuse_rooms" 615,.str "refuse_rooms" 616,.str "/claim/cut.py" 617,.int 115 0,.int 1 0,.int 0 0,.int 0 0,.int 3 0,.ref 328,.bool true,.int 181 0,.ref 329,.none,.ref 330,.ref 331,.ref 332,.int 620 0,.int 115 0,.str "/claim/cut.py" 621],#[]⟩
def o373 (P:Params):Obj:=⟨.type "function",none,.func ⟨"refuse_rooms","refuse_rooms",defArgs (tp 30),.stmts (defBody (tp 30)),defScope (tp 30),3,[],.none,.none,.none,.str "roomward.machines" 598,none,.ref 333,.none,0⟩,#[]⟩
def o374 (P:Params):Obj:=⟨.type "tuple",none,.seq #[] 0,#[]⟩
def o375 (P:Params):Obj:=⟨.none,none,.fields #[],#[]⟩
def o376 (P:Params):Obj:=⟨.type "tuple",none,.seq #[.str "rooms" 626,.str "doors" 627,.str "leads" 628,.str "room" 629,.str "deed" 630,.str "far" 631] 0,#[]⟩
def o377 (P:Params):Obj:=⟨.type "tuple",none,.seq #[] 0,#[]⟩
def o378 (P:Params):Obj:=⟨.none,none,.func ⟨"leads_of","leads_of",defArgs (tp 31),.stmts (defBody (tp 31)),defScope (tp 31),0,[],.none,.none,.none,.none,none,.none,.none,0⟩,#[]⟩
def o379 (P:Params):Obj:=⟨.type "code",none,.fields #[.str "leads_of" 623,.str "leads_of" 624,.str "/claim/cut.py" 625,.int 119 0,.int 2 0,.int 0 0,.int 0 0,.int 3 0,.ref 335,.bool true,.int 181 0,.ref 336,.none,.ref 337,.ref 338,.ref 339,.int 632 0,.int 119 0,.str "/claim/cut.py" 633],#[]⟩
def o380 (P:Params):Obj:=⟨.type "function",none,.func ⟨"leads_of","leads_of",defArgs (tp 31),.stmts (defBody (tp 31)),defScope (tp 31),3,[],.none,.none,.none,.str "roomward.machines" 598,none,.ref 340,.none,0⟩,#[]⟩
noncomputable def T18 (P:Params):BT:=(bn (boot_o_0 P) (bn (boot_o_1 P) (bn (o358 P) (bn (boot_o_7 P) (bn (o6 P) (bn (o237 P) (bn (o63 P) (bn (o142 P) (be (o292 P)) bz) (bn (o221 P) (be (o356 P)) bz)) (bn (o104 P) (bn (o183 P) (be (o324 P)) bz) (be (o256 P)))) (bn (o44 P) (bn (o82 P) (bn (o164 P) (be (o308 P)) bz) (bn (o240 P) (be (o374 P)) bz)) (bn (o123 P) (bn (o202 P) (be (o340 P)) bz) (be (o272 P))))) (bn (o14 P) (bn (o33 P) (bn (o74 P) (bn (o153 P) (be (o300 P)) bz) (bn (o229 P) (be (o366 P)) bz)) (bn (o112 P) (bn (o194 P) (be (o332 P)) bz) (be (o264 P)))) (bn (o52 P) (bn (o93 P) (bn (o172 P) (be (o316 P)) bz) (be (o248 P))) (bn (o134 P) (bn (o210 P) (be (o348 P)) bz) (be (o282 P)))))) (bn (o0 P) (bn (o10 P) (bn (o29 P) (bn (o67 P) (bn (o149 P) (be (o296 P)) bz) (bn (o225 P) (be (o362 P)) bz)) (bn (o108 P) (bn (o187 P) (be (o328 P)) bz) (be (o260 P)))) (bn (o48 P) (bn (o89 P) (bn (o168 P) (be (o312 P)) bz) (bn (o244 P) (be (o378 P)) bz)) (bn (o127 P) (bn (o206 P) (be (o344 P)) bz) (be (o278 P))))) (bn (o18 P) (bn (o37 P) (bn (o78 P) (bn (o157 P) (be (o304 P)) bz) (bn (o233 P) (be (o370 P)) bz)) (bn (o119 P) (bn (o198 P) (be (o336 P)) bz) (be (o268 P)))) (bn (o59 P) (bn (o97 P) (bn (o179 P) (be (o320 P)) bz) (be (o252 P))) (bn (o138 P) (bn (o217 P) (be (o352 P)) bz) (be (o288 P))))))) (bn (boot_o_5 P) (bn (boot_o_9 P) (bn (o8 P) (bn (o24 P) (bn (o65 P) (bn (o144 P) (be (o294 P)) bz) (bn (o223 P) (be (o360 P)) bz)) (bn (o106 P) (bn (o185 P) (be (o326 P)) bz) (be (o258 P)))) (bn (o46 P) (bn (o84 P) (bn (o166 P) (be (o310 P)) bz) (bn (o242 P) (be (o376 P)) bz)) (bn (o125 P) (bn (o204 P) (be (o342 P)) bz) (be (o274 P))))) (bn (o16 P) (bn (o35 P) (bn (o76 P) (bn (o155 P) (be (o302 P)) bz) (bn (o231 P) (be (o368 P)) bz)) (bn (o114 P) (bn (o196 P) (be (o334 P)) bz) (be (o266 P)))) (bn (o54 P) (bn (o95 P) (bn (o174 P) (be (o318 P)) bz) (be (o250 P))) (bn (o136 P) (bn (o212 P) (be (o350 P)) bz) (be (o284 P)))))) (bn (o2 P) (bn (o12 P) (bn (o31 P) (bn (o69 P) (bn (o151 P) (be (o298 P)) bz) (bn (o227 P) (be (o364 P)) bz)) (bn (o110 P) (bn (o189 P) (be (o330 P)) bz) (be (o262 P)))) (bn (o50 P) (bn (o91 P) (bn (o170 P) (be (o314 P)) bz) (bn (o246 P) (be (o380 P)) bz)) (bn (o129 P) (bn (o208 P) (be (o346 P)) bz) (be (o280 P))))) (bn (o20 P) (bn (o39 P) (bn (o80 P) (bn (o159 P) (be (o306 P)) bz) (bn (o238 P) (be (o372 P)) bz)) (bn (o121 P) (bn (o200 P) (be (o338 P)) bz) (be (o270 P)))) (bn (o61 P) (bn (o99 P) (bn (o181 P) (be (o322 P)) bz) (be (o254 P))) (bn (o140 P) (bn (o219 P) (be (o354 P)) bz) (be (o290 P)))))))) (bn (boot_o_2 P) (bn (boot_o_4 P) (bn (boot_o_8 P) (bn (o7 P) (bn (o23 P) (bn (o64 P) (bn (o143 P) (be (o293 P)) bz) (bn (o222 P) (be (o357 P)) bz)) (bn (o105 P) (bn (o184 P) (be (o325 P)) bz) (be (o257 P)))) (bn (o45 P) (bn (o83 P) (bn (o165 P) (be (o309 P)) bz) (bn (o241 P) (be (o375 P)) bz)) (bn (o124 P) (bn (o203 P) (be (o341 P)) bz) (be (o273 P))))) (bn (o15 P) (bn (o34 P) (bn (o75 P) (bn (o154 P) (be (o301 P)) bz) (bn (o230 P) (be (o367 P)) bz)) (bn (o113 P) (bn (o195 P) (be (o333 P)) bz) (be (o265 P)))) (bn (o53 P) (bn (o94 P) (bn (o173 P) (be (o317 P)) bz) (be (o249 P))) (bn (o135 P) (bn (o211 P) (be (o349 P)) bz) (be (o283 P)))))) (bn (o359 P) (bn (o11 P) (bn (o30 P) (bn (o68 P) (bn (o150 P) (be (o297 P)) bz) (bn (o226 P) (be (o363 P)) bz)) (bn (o109 P) (bn (o188 P) (be (o329 P)) bz) (be (o261 P)))) (bn (o49 P) (bn (o90 P) (bn (o169 P) (be (o313 P)) bz) (bn (o245 P) (be (o379 P)) bz)) (bn (o128 P) (bn (o207 P) (be (o345 P)) bz) (be (o279 P))))) (bn (o19 P) (bn (o38 P) (bn (o79 P) (bn (o158 P) (be (o305 P)) bz) (bn (o234 P) (be (o371 P)) bz)) (bn (o120 P) (bn (o199 P) (be (o337 P)) bz) (be (o269 P)))) (bn (o60 P) (bn (o98 P) (bn (o180 P) (be (o321 P)) bz) (be (o253 P))) (bn (o139 P) (bn (o218 P) (be (o353 P)) bz) (be (o289 P))))))) (bn (boot_o_6 P) (bn (boot_o_10 P) (bn (o9 P) (bn (o25 P) (bn (o66 P) (bn (o145 P) (be (o295 P)) bz) (bn (o224 P) (be (o361 P)) bz)) (bn (o107 P) (bn (o186 P) (be (o327 P)) bz) (be (o259 P)))) (bn (o47 P) (bn (o85 P) (bn (o167 P) (be (o311 P)) bz) (bn (o243 P) (be (o377 P)) bz)) (bn (o126 P) (bn (o205 P) (be (o343 P)) bz) (be (o275 P))))) (bn (o17 P) (bn (o36 P) (bn (o77 P) (bn (o156 P) (be (o303 P)) bz) (bn (o232 P) (be (o369 P)) bz)) (bn (o115 P) (bn (o197 P) (be (o335 P)) bz) (be (o267 P)))) (bn (o55 P) (bn (o96 P) (bn (o175 P) (be (o319 P)) bz) (be (o251 P))) (bn (o137 P) (bn (o216 P) (be (o351 P)) bz) (be (o287 P)))))) (bn (o3 P) (bn (o13 P) (bn (o32 P) (bn (o70 P) (bn (o152 P) (be (o299 P)) bz) (bn (o228 P) (be (o365 P)) bz)) (bn (o111 P) (bn (o190 P) (be (o331 P)) bz) (be (o263 P)))) (bn (o51 P) (bn (o92 P) (bn (o171 P) (be (o315 P)) bz) (be (o247 P))) (bn (o130 P) (bn (o209 P) (be (o347 P)) bz) (be (o281 P))))) (bn (o21 P) (bn (o40 P) (bn (o81 P) (bn (o160 P) (be (o307 P)) bz) (bn (o239 P) (be (o373 P)) bz)) (bn (o122 P) (bn (o201 P) (be (o339 P)) bz) (be (o271 P)))) (bn (o62 P) (bn (o100 P) (bn (o182 P) (be (o323 P)) bz) (be (o255 P))) (bn (o141 P) (bn (o220 P) (be (o355 P)) bz) (be (o291 P)))))))))
theorem pc18:Hd.Pc pp env T17 321 598 T18 342 635 118 [tp 27,tp 28,tp 29,tp 30,tp 31] ⟨75,0,105,16⟩ ⟨119,0,127,16⟩:=by
 intro w
 kernel_rfl
def o381 (P:Params):Obj:=⟨.type "dict",none,.dict #[en P "__name__" 165 (.str "roomward.machines" 598),en P "__doc__" 166 .none,en P "__package__" 167 .none,en P "__loader__" 168 (.builtin "__main__.__loader__#opaque"),en P "__spec__" 169 .none,en P "__annotations__" 170 (.ref 6),en P "__builtins__" 171 (.ref 4),en P "__file__" 173 (.str "/claim/cut.py" 172),en P "__cached__" 174 .none,en P "_wall" 193 (.ref 21),en P "WardError" 213 (.ref 31),en P "NoName" 229 (.ref 44),en P "NoDeed" 245 (.ref 56),en P "NoRoom" 261 (.ref 68),en P "TwiceTold" 277 (.ref 80),en P "TooMany" 293 (.ref 92),en P "NoRule" 309 (.ref 104),en P "NoRow" 325 (.ref 116),en P "NoHold" 341 (.ref 128),en P "NoHolder" 357 (.ref 140),en P "FreeDeed" 373 (.ref 152),en P "NotNow" 389 (.ref 164),en P "NoWarden" 416 (.ref 183),en P "NoText" 441 (.ref 202),en P "NoBook" 466 (.ref 221),en P "LETTERS" 470 (.str "abcdefghijklmnopqrstuvwxyz" 469),en P "FIGURES" 472 (.str "0123456789" 471),en P "MOST_SIGNS" 474 (.int 8 473),en P "MOST_DEEDS" 476 (.int 12 475),en P "is_name" 482 (.ref 228),en P "refuse_names" 491 (.ref 235),en P "weights_of" 501 (.ref 242),en P "marks_of" 510 (.ref 249),en P "Deeds" 597 (.ref 316),en P "MOST_ROOMS" 601 (.int 60 600),en P "named_rooms" 614 (.ref 327),en P "refuse_rooms" 622 (.ref 334),en P "leads_of" 634 (.ref 341),en P "Machine" 750 (.ref 434)] 39,#[]⟩
def o382 (P:Params):Obj:=⟨.none,none,.fields #[.int 1 0,.int 0 0,.ref 20,.int 5 0,.int 0 0,.ref 27,.int 7 0,.int 0 0,.ref 40,.int 9 0,.int 0 0,.ref 52,.int 11 0,.int 0 0,.ref 64,.int 13 0,.int 0 0,.ref 76,.int 15 0,.int 0 0,.ref 88,.int 17 0,.int 0 0,.ref 100,.int 19 0,.int 0 0,.ref 112,.int 21 0,.int 0 0,.ref 124,.int 23 0,.int 0 0,.ref 136,.int 25 0,.int 0 0,.ref 148,.int 27 0,.int 0 0,.ref 160,.int 29 0,.int 0 0,.ref 172,.int 35 0,.int 0 0,.ref 191,.int 39 0,.int 0 0,.ref 210,.int 48 0,.int 0 0,.ref 227,.int 53 0,.int 0 0,.ref 234,.int 63 0,.int 0 0,.ref 241,.int 70 0,.int 0 0,.ref 248,.int 75 0,.int 0 0,.ref 255,.int 108 0,.int 0 0,.ref 326,.int 115 0,.int 0 0,.ref 333,.int 119 0,.int 0 0,.ref 340,.int 128 0,.int 0 0,.ref 347],#[]⟩
def o383 (P:Params):Obj:=⟨.type "tuple",none,.seq #[] 0,#[]⟩
def o384 (P:Params):Obj:=⟨.type "builtin_function_or_method",none,.fields #[.builtin "type.__prepare__",.type "type"],#[]⟩
def o385 (P:Params):Obj:=⟨.type "dict",none,.dict #[en P "__module__" 642 (.str "roomward.machines" 598),en P "__qualname__" 644 (.str "Machine" 643),en P "__firstlineno__" 646 (.int 128 645),en P "__init__" 652 (.ref 354),en P "deeds" 659 (.ref 361),en P "begin" 666 (.ref 368),en P "rooms" 673 (.ref 375),en P "ends" 680 (.ref 382),en P "knows" 687 (.ref 389),en P "require_room" 695 (.ref 396),en P "at" 703 (.ref 403),en P "to" 712 (.ref 410),en P "is_end" 720 (.ref 417),en P "goes" 729 (.ref 424),en P "behind" 737 (.ref 431),en P "__static_attributes__" 743 (.ref 432)] 16,#[]⟩
def o386 (P:Params):Obj:=⟨.type "tuple",none,.seq #[] 0,#[]⟩
def o387 (P:Params):Obj:=⟨.none,none,.fields #[.int 130 0,.int 4 0,.ref 353,.int 145 0,.int 4 0,.ref 360,.int 148 0,.int 4 0,.ref 367,.int 151 0,.int 4 0,.ref 374,.int 154 0,.int 4 0,.ref 381,.int 157 0,.int 4 0,.ref 388,.int 160 0,.int 4 0,.ref 395,.int 164 0,.int 4 0,.ref 402,.int 168 0,.int 4 0,.ref 409,.int 173 0,.int 4 0,.ref 416,.int 177 0,.int 4 0,.ref 423,.int 180 0,.int 4 0,.ref 430],#[]⟩
def o388 (P:Params):Obj:=⟨.type "code",none,.fields #[.str "Machine" 637,.str "Machine" 638,.str "/claim/cut.py" 639,.int 128 0,.int 0 0,.int 0 0,.int 0 0,.int 0 0,.ref 345,.bool false,.int 181 0,.ref 346,.none,.none,.none,.none,.int 640 0,.int 128 0,.str "/claim/cut.py" 641],#[]⟩
def o389 (P:Params):Obj:=⟨.type "frame",none,.plain,#[(some (.ref 347)),(some (.ref 3)),(some (.ref 344)),none,(some (.str "roomward.machines" 598)),none,(some (.ref 0))]⟩
def o390 (P:Params):Obj:=⟨.type "tuple",none,.seq #[.none] 0,#[]⟩
def o391 (P:Params):Obj:=⟨.type "tuple",none,.seq #[] 0,#[]⟩
def o392 (P:Params):Obj:=⟨.none,none,.fields #[],#[]⟩
def o393 (P:Params):Obj:=⟨.none,none,.func ⟨"__init__","Machine.__init__",defArgs (inClass (tp 32) 0),.stmts (defBody (inClass (tp 32) 0)),defScope (inClass (tp 32) 0),0,[],.none,.none,.none,.none,none,.none,.none,0⟩,#[]⟩
def o394 (P:Params):Obj:=⟨.type "code",none,.fields #[.str "__init__" 647,.str "Machine.__init__" 648,.str "/claim/cut.py" 649,.int 130 0,.int 6 0,.int 0 0,.int 0 0,.int 3 0,.ref 350,.bool true,.int 181 0,.ref 351,.none,.none,.none,.ref 352,.int 650 0,.int 130 0,.str "/claim/cut.py" 651],#[]⟩
def o395 (P:Params):Obj:=⟨.type "function",none,.func ⟨"__init__","Machine.__init__",defArgs (inClass (tp 32) 0),.stmts (defBody (inClass (tp 32) 0)),defScope (inClass (tp 32) 0),3,[],.ref 349,.none,.none,.str "roomward.machines" 598,none,.ref 353,.none,0⟩,#[]⟩
def o396 (P:Params):Obj:=⟨.type "tuple",none,.seq #[] 0,#[]⟩
def o397 (P:Params):Obj:=⟨.none,none,.fields #[],#[]⟩
def o398 (P:Params):Obj:=⟨.type "tuple",none,.seq #[.str "self" 656] 0,#[]⟩
def o399 (P:Params):Obj:=⟨.type "tuple",none,.seq #[] 0,#[]⟩
def o400 (P:Params):Obj:=⟨.none,none,.func ⟨"deeds","Machine.deeds",defArgs (inClass (tp 32) 1),.stmts (defBody (inClass (tp 32) 1)),defScope (inClass (tp 32) 1),0,[],.none,.none,.none,.none,none,.none,.none,0⟩,#[]⟩
def o401 (P:Params):Obj:=⟨.type "code",none,.fields #[.str "deeds" 653,.str "Machine.deeds" 654,.str "/claim/cut.py" 655,.int 145 0,.int 1 0,.int 0 0,.int 0 0,.int 3 0,.ref 355,.bool true,.int 181 0,.ref 356,.none,.ref 357,.ref 358,.ref 359,.int 657 0,.int 145 0,.str "/claim/cut.py" 658],#[]⟩
def o402 (P:Params):Obj:=⟨.type "function",none,.func ⟨"deeds","Machine.deeds",defArgs (inClass (tp 32) 1),.stmts (defBody (inClass (tp 32) 1)),defScope (inClass (tp 32) 1),3,[],.none,.none,.none,.str "roomward.machines" 598,none,.ref 360,.none,0⟩,#[]⟩
def o403 (P:Params):Obj:=⟨.type "tuple",none,.seq #[] 0,#[]⟩
def o404 (P:Params):Obj:=⟨.none,none,.fields #[],#[]⟩
def o405 (P:Params):Obj:=⟨.type "tuple",none,.seq #[.str "self" 663] 0,#[]⟩
def o406 (P:Params):Obj:=⟨.type "tuple",none,.seq #[] 0,#[]⟩
def o407 (P:Params):Obj:=⟨.none,none,.func ⟨"begin","Machine.begin",defArgs (inClass (tp 32) 2),.stmts (defBody (inClass (tp 32) 2)),defScope (inClass (tp 32) 2),0,[],.none,.none,.none,.none,none,.none,.none,0⟩,#[]⟩
def o408 (P:Params):Obj:=⟨.type "code",none,.fields #[.str "begin" 660,.str "Machine.begin" 661,.str "/claim/cut.py" 662,.int 148 0,.int 1 0,.int 0 0,.int 0 0,.int 3 0,.ref 362,.bool true,.int 181 0,.ref 363,.none,.ref 364,.ref 365,.ref 366,.int 664 0,.int 148 0,.str "/claim/cut.py" 665],#[]⟩
def o409 (P:Params):Obj:=⟨.type "function",none,.func ⟨"begin","Machine.begin",defArgs (inClass (tp 32) 2),.stmts (defBody (inClass (tp 32) 2)),defScope (inClass (tp 32) 2),3,[],.none,.none,.none,.str "roomward.machines" 598,none,.ref 367,.none,0⟩,#[]⟩
def o410 (P:Params):Obj:=⟨.type "tuple",none,.seq #[] 0,#[]⟩
def o411 (P:Params):Obj:=⟨.none,none,.fields #[],#[]⟩
def o412 (P:Params):Obj:=⟨.type "tuple",none,.seq #[.str "self" 670] 0,#[]⟩
def o413 (P:Params):Obj:=⟨.type "tuple",none,.seq #[] 0,#[]⟩
def o414 (P:Params):Obj:=⟨.none,none,.func ⟨"rooms","Machine.rooms",defArgs (inClass (tp 32) 3),.stmts (defBody (inClass (tp 32) 3)),defScope (inClass (tp 32) 3),0,[],.none,.none,.none,.none,none,.none,.none,0⟩,#[]⟩
def o415 (P:Params):Obj:=⟨.type "code",none,.fields #[.str "rooms" 667,.str "Machine.rooms" 668,.str "/claim/cut.py" 669,.int 151 0,.int 1 0,.int 0 0,.int 0 0,.int 3 0,.ref 369,.bool true,.int 181 0,.ref 370,.none,.ref 371,.ref 372,.ref 373,.int 671 0,.int 151 0,.str "/claim/cut.py" 672],#[]⟩
def o416 (P:Params):Obj:=⟨.type "function",none,.func ⟨"rooms","Machine.rooms",defArgs (inClass (tp 32) 3),.stmts (defBody (inClass (tp 32) 3)),defScope (inClass (tp 32) 3),3,[],.none,.none,.none,.str "roomward.machines" 598,none,.ref 374,.none,0⟩,#[]⟩
def o417 (P:Params):Obj:=⟨.type "tuple",none,.seq #[] 0,#[]⟩
def o418 (P:Params):Obj:=⟨.none,none,.fields #[],#[]⟩
def o419 (P:Params):Obj:=⟨.type "tuple",none,.seq #[.str "self" 677] 0,#[]⟩
def o420 (P:Params):Obj:=⟨.type "tuple",none,.seq #[] 0,#[]⟩
def o421 (P:Params):Obj:=⟨.none,none,.func ⟨"ends","Machine.ends",defArgs (inClass (tp 32) 4),.stmts (defBody (inClass (tp 32) 4)),defScope (inClass (tp 32) 4),0,[],.none,.none,.none,.none,none,.none,.none,0⟩,#[]⟩
def o422 (P:Params):Obj:=⟨.type "code",none,.fields #[.str "ends" 674,.str "Machine.ends" 675,.str "/claim/cut.py" 676,.int 154 0,.int 1 0,.int 0 0,.int 0 0,.int 3 0,.ref 376,.bool true,.int 181 0,.ref 377,.none,.ref 378,.ref 379,.ref 380,.int 678 0,.int 154 0,.str "/claim/cut.py" 679],#[]⟩
def o423 (P:Params):Obj:=⟨.type "function",none,.func ⟨"ends","Machine.ends",defArgs (inClass (tp 32) 4),.stmts (defBody (inClass (tp 32) 4)),defScope (inClass (tp 32) 4),3,[],.none,.none,.none,.str "roomward.machines" 598,none,.ref 381,.none,0⟩,#[]⟩
def o424 (P:Params):Obj:=⟨.type "tuple",none,.seq #[] 0,#[]⟩
def o425 (P:Params):Obj:=⟨.none,none,.fields #[],#[]⟩
def o426 (P:Params):Obj:=⟨.type "tuple",none,.seq #[.str "self" 684] 0,#[]⟩
def o427 (P:Params):Obj:=⟨.type "tuple",none,.seq #[] 0,#[]⟩
def o428 (P:Params):Obj:=⟨.none,none,.func ⟨"knows","Machine.knows",defArgs (inClass (tp 32) 5),.stmts (defBody (inClass (tp 32) 5)),defScope (inClass (tp 32) 5),0,[],.none,.none,.none,.none,none,.none,.none,0⟩,#[]⟩
def o429 (P:Params):Obj:=⟨.type "code",none,.fields #[.str "knows" 681,.str "Machine.knows" 682,.str "/claim/cut.py" 683,.int 157 0,.int 1 0,.int 0 0,.int 0 0,.int 3 0,.ref 383,.bool true,.int 181 0,.ref 384,.none,.ref 385,.ref 386,.ref 387,.int 685 0,.int 157 0,.str "/claim/cut.py" 686],#[]⟩
def o430 (P:Params):Obj:=⟨.type "function",none,.func ⟨"knows","Machine.knows",defArgs (inClass (tp 32) 5),.stmts (defBody (inClass (tp 32) 5)),defScope (inClass (tp 32) 5),3,[],.none,.none,.none,.str "roomward.machines" 598,none,.ref 388,.none,0⟩,#[]⟩
def o431 (P:Params):Obj:=⟨.type "tuple",none,.seq #[] 0,#[]⟩
def o432 (P:Params):Obj:=⟨.none,none,.fields #[],#[]⟩
def o433 (P:Params):Obj:=⟨.type "tuple",none,.seq #[.str "self" 691,.str "room" 692] 0,#[]⟩
def o434 (P:Params):Obj:=⟨.type "tuple",none,.seq #[] 0,#[]⟩
def o435 (P:Params):Obj:=⟨.none,none,.func ⟨"require_room","Machine.require_room",defArgs (inClass (tp 32) 6),.stmts (defBody (inClass (tp 32) 6)),defScope (inClass (tp 32) 6),0,[],.none,.none,.none,.none,none,.none,.none,0⟩,#[]⟩
def o436 (P:Params):Obj:=⟨.type "code",none,.fields #[.str "require_room" 688,.str "Machine.require_room" 689,.str "/claim/cut.py" 690,.int 160 0,.int 2 0,.int 0 0,.int 0 0,.int 3 0,.ref 390,.bool true,.int 181 0,.ref 391,.none,.ref 392,.ref 393,.ref 394,.int 693 0,.int 160 0,.str "/claim/cut.py" 694],#[]⟩
def o437 (P:Params):Obj:=⟨.type "function",none,.func ⟨"require_room","Machine.require_room",defArgs (inClass (tp 32) 6),.stmts (defBody (inClass (tp 32) 6)),defScope (inClass (tp 32) 6),3,[],.none,.none,.none,.str "roomward.machines" 598,none,.ref 395,.none,0⟩,#[]⟩
def o438 (P:Params):Obj:=⟨.type "tuple",none,.seq #[] 0,#[]⟩
def o439 (P:Params):Obj:=⟨.none,none,.fields #[],#[]⟩
def o440 (P:Params):Obj:=⟨.type "tuple",none,.seq #[.str "self" 699,.str "room" 700] 0,#[]⟩
def o441 (P:Params):Obj:=⟨.type "tuple",none,.seq #[] 0,#[]⟩
def o442 (P:Params):Obj:=⟨.none,none,.func ⟨"at","Machine.at",defArgs (inClass (tp 32) 7),.stmts (defBody (inClass (tp 32) 7)),defScope (inClass (tp 32) 7),0,[],.none,.none,.none,.none,none,.none,.none,0⟩,#[]⟩
def o443 (P:Params):Obj:=⟨.type "code",none,.fields #[.str "at" 696,.str "Machine.at" 697,.str "/claim/cut.py" 698,.int 164 0,.int 2 0,.int 0 0,.int 0 0,.int 3 0,.ref 397,.bool true,.int 181 0,.ref 398,.none,.ref 399,.ref 400,.ref 401,.int 701 0,.int 164 0,.str "/claim/cut.py" 702],#[]⟩
def o444 (P:Params):Obj:=⟨.type "function",none,.func ⟨"at","Machine.at",defArgs (inClass (tp 32) 7),.stmts (defBody (inClass (tp 32) 7)),defScope (inClass (tp 32) 7),3,[],.none,.none,.none,.str "roomward.machines" 598,none,.ref 402,.none,0⟩,#[]⟩
def o445 (P:Params):Obj:=⟨.type "tuple",none,.seq #[] 0,#[]⟩
def o446 (P:Params):Obj:=⟨.none,none,.fields #[],#[]⟩
def o447 (P:Params):Obj:=⟨.type "tuple",none,.seq #[.str "self" 707,.str "room" 708,.str "deed" 709] 0,#[]⟩
def o448 (P:Params):Obj:=⟨.type "tuple",none,.seq #[] 0,#[]⟩
def o449 (P:Params):Obj:=⟨.none,none,.func ⟨"to","Machine.to",defArgs (inClass (tp 32) 8),.stmts (defBody (inClass (tp 32) 8)),defScope (inClass (tp 32) 8),0,[],.none,.none,.none,.none,none,.none,.none,0⟩,#[]⟩
def o450 (P:Params):Obj:=⟨.type "code",none,.fields #[.str "to" 704,.str "Machine.to" 705,.str "/claim/cut.py" 706,.int 168 0,.int 3 0,.int 0 0,.int 0 0,.int 3 0,.ref 404,.bool true,.int 181 0,.ref 405,.none,.ref 406,.ref 407,.ref 408,.int 710 0,.int 168 0,.str "/claim/cut.py" 711],#[]⟩
def o451 (P:Params):Obj:=⟨.type "function",none,.func ⟨"to","Machine.to",defArgs (inClass (tp 32) 8),.stmts (defBody (inClass (tp 32) 8)),defScope (inClass (tp 32) 8),3,[],.none,.none,.none,.str "roomward.machines" 598,none,.ref 409,.none,0⟩,#[]⟩
def o452 (P:Params):Obj:=⟨.type "tuple",none,.seq #[] 0,#[]⟩
def o453 (P:Params):Obj:=⟨.none,none,.fields #[],#[]⟩
def o454 (P:Params):Obj:=⟨.type "tuple",none,.seq #[.str "self" 716,.str "room" 717] 0,#[]⟩
def o455 (P:Params):Obj:=⟨.type "tuple",none,.seq #[] 0,#[]⟩
def o456 (P:Params):Obj:=⟨.none,none,.func ⟨"is_end","Machine.is_end",defArgs (inClass (tp 32) 9),.stmts (defBody (inClass (tp 32) 9)),defScope (inClass (tp 32) 9),0,[],.none,.none,.none,.none,none,.none,.none,0⟩,#[]⟩
def o457 (P:Params):Obj:=⟨.type "code",none,.fields #[.str "is_end" 713,.str "Machine.is_end" 714,.str "/claim/cut.py" 715,.int 173 0,.int 2 0,.int 0 0,.int 0 0,.int 3 0,.ref 411,.bool true,.int 181 0,.ref 412,.none,.ref 413,.ref 414,.ref 415,.int 718 0,.int 173 0,.str "/claim/cut.py" 719],#[]⟩
def o458 (P:Params):Obj:=⟨.type "function",none,.func ⟨"is_end","Machine.is_end",defArgs (inClass (tp 32) 9),.stmts (defBody (inClass (tp 32) 9)),defScope (inClass (tp 32) 9),3,[],.none,.none,.none,.str "roomward.machines" 598,none,.ref 416,.none,0⟩,#[]⟩
def o459 (P:Params):Obj:=⟨.type "tuple",none,.seq #[] 0,#[]⟩
def o460 (P:Params):Obj:=⟨.none,none,.fields #[],#[]⟩
def o461 (P:Params):Obj:=⟨.type "tuple",none,.seq #[.str "self" 724,.str "room" 725,.str "deed" 726] 0,#[]⟩
def o462 (P:Params):Obj:=⟨.type "tuple",none,.seq #[] 0,#[]⟩
def o463 (P:Params):Obj:=⟨.none,none,.func ⟨"goes","Machine.goes",defArgs (inClass (tp 32) 10),.stmts (defBody (inClass (tp 32) 10)),defScope (inClass (tp 32) 10),0,[],.none,.none,.none,.none,none,.none,.none,0⟩,#[]⟩
def o464 (P:Params):Obj:=⟨.type "code",none,.fields #[.str "goes" 721,.str "Machine.goes" 722,.str "/claim/cut.py" 723,.int 177 0,.int 3 0,.int 0 0,.int 0 0,.int 3 0,.ref 418,.bool true,.int 181 0,.ref 419,.none,.ref 420,.ref 421,.ref 422,.int 727 0,.int 177 0,.str "/claim/cut.py" 728],#[]⟩
def o465 (P:Params):Obj:=⟨.type "function",none,.func ⟨"goes","Machine.goes",defArgs (inClass (tp 32) 10),.stmts (defBody (inClass (tp 32) 10)),defScope (inClass (tp 32) 10),3,[],.none,.none,.none,.str "roomward.machines" 598,none,.ref 423,.none,0⟩,#[]⟩
def o466 (P:Params):Obj:=⟨.type "tuple",none,.seq #[] 0,#[]⟩
def o467 (P:Params):Obj:=⟨.none,none,.fields #[],#[]⟩
def o468 (P:Params):Obj:=⟨.type "tuple",none,.seq #[.str "self" 733,.str "row" 734] 0,#[]⟩
def o469 (P:Params):Obj:=⟨.type "tuple",none,.seq #[] 0,#[]⟩
def o470 (P:Params):Obj:=⟨.none,none,.func ⟨"behind","Machine.behind",defArgs (inClass (tp 32) 11),.stmts (defBody (inClass (tp 32) 11)),defScope (inClass (tp 32) 11),0,[],.none,.none,.none,.none,none,.none,.none,0⟩,#[]⟩
def o471 (P:Params):Obj:=⟨.type "code",none,.fields #[.str "behind" 730,.str "Machine.behind" 731,.str "/claim/cut.py" 732,.int 180 0,.int 2 0,.int 0 0,.int 0 0,.int 3 0,.ref 425,.bool true,.int 181 0,.ref 426,.none,.ref 427,.ref 428,.ref 429,.int 735 0,.int 180 0,.str "/claim/cut.py" 736],#[]⟩
def o472 (P:Params):Obj:=⟨.type "function",none,.func ⟨"behind","Machine.behind",defArgs (inClass (tp 32) 11),.stmts (defBody (inClass (tp 32) 11)),defScope (inClass (tp 32) 11),3,[],.none,.none,.none,.str "roomward.machines" 598,none,.ref 430,.none,0⟩,#[]⟩
def o473 (P:Params):Obj:=⟨.type "tuple",none,.seq #[.str "deeds_made_of" 738,.str "end_marks" 739,.str "first_room" 740,.str "known_marks" 741,.str "leads" 742] 0,#[]⟩
def o474 (P:Params):Obj:=⟨.type "dict",none,.dict #[en P "__module__" 642 (.str "roomward.machines" 598),en P "__firstlineno__" 646 (.int 128 645),en P "__init__" 652 (.ref 354),en P "deeds" 659 (.ref 361),en P "begin" 666 (.ref 368),en P "rooms" 673 (.ref 375),en P "ends" 680 (.ref 382),en P "knows" 687 (.ref 389),en P "require_room" 695 (.ref 396),en P "at" 703 (.ref 403),en P "to" 712 (.ref 410),en P "is_end" 720 (.ref 417),en P "goes" 729 (.ref 424),en P "behind" 737 (.ref 431),en P "__static_attributes__" 743 (.ref 432),en P "__dict__" 745 (.ref 435),en P "__weakref__" 747 (.ref 436),en P "__doc__" 748 .none] 4,#[]⟩
def o475 (P:Params):Obj:=⟨.type "type",none,.cls ⟨"Machine",[.type "object"],[.ref 434,.type "object"],433,"Machine",true,[],[],false,none,false⟩,#[none,none,(some (.str "Machine" 635)),(some (.str "Machine" 643)),(some (.builtin "object.__new__")),(some (.bool true))]⟩
def o476 (P:Params):Obj:=⟨.type "getset_descriptor",none,.fields #[.str "__dict__" 744,.ref 434,.builtin "function.__dict__",.builtin "function.__dict__#set"],#[]⟩
def o477 (P:Params):Obj:=⟨.type "getset_descriptor",none,.fields #[.str "__weakref__" 746,.ref 434,.builtin "ExceptionGroup.__weakref__",.none],#[]⟩
def o478 (P:Params):Obj:=⟨.type "super",none,.fields #[.ref 434,.ref 434,.ref 434],#[]⟩
def o479 (P:Params):Obj:=⟨.type "builtin_function_or_method",none,.fields #[.builtin "object.__init_subclass__",.ref 434],#[]⟩
noncomputable def T19 (P:Params):BT:=(bn (boot_o_0 P) (bn (boot_o_1 P) (bn (o381 P) (bn (boot_o_7 P) (bn (o6 P) (bn (o237 P) (bn (o63 P) (bn (o142 P) (be (o292 P)) (be (o424 P))) (bn (o221 P) (be (o356 P)) bz)) (bn (o104 P) (bn (o183 P) (be (o324 P)) (be (o456 P))) (bn (o256 P) (be (o392 P)) bz))) (bn (o44 P) (bn (o82 P) (bn (o164 P) (be (o308 P)) (be (o440 P))) (bn (o240 P) (be (o374 P)) bz)) (bn (o123 P) (bn (o202 P) (be (o340 P)) (be (o472 P))) (bn (o272 P) (be (o408 P)) bz)))) (bn (o14 P) (bn (o33 P) (bn (o74 P) (bn (o153 P) (be (o300 P)) (be (o432 P))) (bn (o229 P) (be (o366 P)) bz)) (bn (o112 P) (bn (o194 P) (be (o332 P)) (be (o464 P))) (bn (o264 P) (be (o400 P)) bz))) (bn (o52 P) (bn (o93 P) (bn (o172 P) (be (o316 P)) (be (o448 P))) (bn (o248 P) (be (o384 P)) bz)) (bn (o134 P) (bn (o210 P) (be (o348 P)) bz) (bn (o282 P) (be (o416 P)) bz))))) (bn (o0 P) (bn (o10 P) (bn (o29 P) (bn (o67 P) (bn (o149 P) (be (o296 P)) (be (o428 P))) (bn (o225 P) (be (o362 P)) bz)) (bn (o108 P) (bn (o187 P) (be (o328 P)) (be (o460 P))) (bn (o260 P) (be (o396 P)) bz))) (bn (o48 P) (bn (o89 P) (bn (o168 P) (be (o312 P)) (be (o444 P))) (bn (o244 P) (be (o378 P)) bz)) (bn (o127 P) (bn (o206 P) (be (o344 P)) (be (o476 P))) (bn (o278 P) (be (o412 P)) bz)))) (bn (o18 P) (bn (o37 P) (bn (o78 P) (bn (o157 P) (be (o304 P)) (be (o436 P))) (bn (o233 P) (be (o370 P)) bz)) (bn (o119 P) (bn (o198 P) (be (o336 P)) (be (o468 P))) (bn (o268 P) (be (o404 P)) bz))) (bn (o59 P) (bn (o97 P) (bn (o179 P) (be (o320 P)) (be (o452 P))) (bn (o252 P) (be (o388 P)) bz)) (bn (o138 P) (bn (o217 P) (be (o352 P)) bz) (bn (o288 P) (be (o420 P)) bz)))))) (bn (boot_o_5 P) (bn (boot_o_9 P) (bn (o8 P) (bn (o24 P) (bn (o65 P) (bn (o144 P) (be (o294 P)) (be (o426 P))) (bn (o223 P) (be (o360 P)) bz)) (bn (o106 P) (bn (o185 P) (be (o326 P)) (be (o458 P))) (bn (o258 P) (be (o394 P)) bz))) (bn (o46 P) (bn (o84 P) (bn (o166 P) (be (o310 P)) (be (o442 P))) (bn (o242 P) (be (o376 P)) bz)) (bn (o125 P) (bn (o204 P) (be (o342 P)) (be (o474 P))) (bn (o274 P) (be (o410 P)) bz)))) (bn (o16 P) (bn (o35 P) (bn (o76 P) (bn (o155 P) (be (o302 P)) (be (o434 P))) (bn (o231 P) (be (o368 P)) bz)) (bn (o114 P) (bn (o196 P) (be (o334 P)) (be (o466 P))) (bn (o266 P) (be (o402 P)) bz))) (bn (o54 P) (bn (o95 P) (bn (o174 P) (be (o318 P)) (be (o450 P))) (bn (o250 P) (be (o386 P)) bz)) (bn (o136 P) (bn (o212 P) (be (o350 P)) bz) (bn (o284 P) (be (o418 P)) bz))))) (bn (o2 P) (bn (o12 P) (bn (o31 P) (bn (o69 P) (bn (o151 P) (be (o298 P)) (be (o430 P))) (bn (o227 P) (be (o364 P)) bz)) (bn (o110 P) (bn (o189 P) (be (o330 P)) (be (o462 P))) (bn (o262 P) (be (o398 P)) bz))) (bn (o50 P) (bn (o91 P) (bn (o170 P) (be (o314 P)) (be (o446 P))) (bn (o246 P) (be (o380 P)) bz)) (bn (o129 P) (bn (o208 P) (be (o346 P)) (be (o478 P))) (bn (o280 P) (be (o414 P)) bz)))) (bn (o20 P) (bn (o39 P) (bn (o80 P) (bn (o159 P) (be (o306 P)) (be (o438 P))) (bn (o238 P) (be (o372 P)) bz)) (bn (o121 P) (bn (o200 P) (be (o338 P)) (be (o470 P))) (bn (o270 P) (be (o406 P)) bz))) (bn (o61 P) (bn (o99 P) (bn (o181 P) (be (o322 P)) (be (o454 P))) (bn (o254 P) (be (o390 P)) bz)) (bn (o140 P) (bn (o219 P) (be (o354 P)) bz) (bn (o290 P) (be (o422 P)) bz))))))) (bn (boot_o_2 P) (bn (boot_o_4 P) (bn (boot_o_8 P) (bn (o7 P) (bn (o23 P) (bn (o64 P) (bn (o143 P) (be (o293 P)) (be (o425 P))) (bn (o222 P) (be (o357 P)) bz)) (bn (o105 P) (bn (o184 P) (be (o325 P)) (be (o457 P))) (bn (o257 P) (be (o393 P)) bz))) (bn (o45 P) (bn (o83 P) (bn (o165 P) (be (o309 P)) (be (o441 P))) (bn (o241 P) (be (o375 P)) bz)) (bn (o124 P) (bn (o203 P) (be (o341 P)) (be (o473 P))) (bn (o273 P) (be (o409 P)) bz)))) (bn (o15 P) (bn (o34 P) (bn (o75 P) (bn (o154 P) (be (o301 P)) (be (o433 P))) (bn (o230 P) (be (o367 P)) bz)) (bn (o113 P) (bn (o195 P) (be (o333 P)) (be (o465 P))) (bn (o265 P) (be (o401 P)) bz))) (bn (o53 P) (bn (o94 P) (bn (o173 P) (be (o317 P)) (be (o449 P))) (bn (o249 P) (be (o385 P)) bz)) (bn (o135 P) (bn (o211 P) (be (o349 P)) bz) (bn (o283 P) (be (o417 P)) bz))))) (bn (o382 P) (bn (o11 P) (bn (o30 P) (bn (o68 P) (bn (o150 P) (be (o297 P)) (be (o429 P))) (bn (o226 P) (be (o363 P)) bz)) (bn (o109 P) (bn (o188 P) (be (o329 P)) (be (o461 P))) (bn (o261 P) (be (o397 P)) bz))) (bn (o49 P) (bn (o90 P) (bn (o169 P) (be (o313 P)) (be (o445 P))) (bn (o245 P) (be (o379 P)) bz)) (bn (o128 P) (bn (o207 P) (be (o345 P)) (be (o477 P))) (bn (o279 P) (be (o413 P)) bz)))) (bn (o19 P) (bn (o38 P) (bn (o79 P) (bn (o158 P) (be (o305 P)) (be (o437 P))) (bn (o234 P) (be (o371 P)) bz)) (bn (o120 P) (bn (o199 P) (be (o337 P)) (be (o469 P))) (bn (o269 P) (be (o405 P)) bz))) (bn (o60 P) (bn (o98 P) (bn (o180 P) (be (o321 P)) (be (o453 P))) (bn (o253 P) (be (o389 P)) bz)) (bn (o139 P) (bn (o218 P) (be (o353 P)) bz) (bn (o289 P) (be (o421 P)) bz)))))) (bn (boot_o_6 P) (bn (boot_o_10 P) (bn (o9 P) (bn (o25 P) (bn (o66 P) (bn (o145 P) (be (o295 P)) (be (o427 P))) (bn (o224 P) (be (o361 P)) bz)) (bn (o107 P) (bn (o186 P) (be (o327 P)) (be (o459 P))) (bn (o259 P) (be (o395 P)) bz))) (bn (o47 P) (bn (o85 P) (bn (o167 P) (be (o311 P)) (be (o443 P))) (bn (o243 P) (be (o377 P)) bz)) (bn (o126 P) (bn (o205 P) (be (o343 P)) (be (o475 P))) (bn (o275 P) (be (o411 P)) bz)))) (bn (o17 P) (bn (o36 P) (bn (o77 P) (bn (o156 P) (be (o303 P)) (be (o435 P))) (bn (o232 P) (be (o369 P)) bz)) (bn (o115 P) (bn (o197 P) (be (o335 P)) (be (o467 P))) (bn (o267 P) (be (o403 P)) bz))) (bn (o55 P) (bn (o96 P) (bn (o175 P) (be (o319 P)) (be (o451 P))) (bn (o251 P) (be (o387 P)) bz)) (bn (o137 P) (bn (o216 P) (be (o351 P)) bz) (bn (o287 P) (be (o419 P)) bz))))) (bn (o3 P) (bn (o13 P) (bn (o32 P) (bn (o70 P) (bn (o152 P) (be (o299 P)) (be (o431 P))) (bn (o228 P) (be (o365 P)) bz)) (bn (o111 P) (bn (o190 P) (be (o331 P)) (be (o463 P))) (bn (o263 P) (be (o399 P)) bz))) (bn (o51 P) (bn (o92 P) (bn (o171 P) (be (o315 P)) (be (o447 P))) (bn (o247 P) (be (o383 P)) bz)) (bn (o130 P) (bn (o209 P) (be (o347 P)) (be (o479 P))) (bn (o281 P) (be (o415 P)) bz)))) (bn (o21 P) (bn (o40 P) (bn (o81 P) (bn (o160 P) (be (o307 P)) (be (o439 P))) (bn (o239 P) (be (o373 P)) bz)) (bn (o122 P) (bn (o201 P) (be (o339 P)) (be (o471 P))) (bn (o271 P) (be (o407 P)) bz))) (bn (o62 P) (bn (o100 P) (bn (o182 P) (be (o323 P)) (be (o455 P))) (bn (o255 P) (be (o391 P)) bz)) (bn (o141 P) (bn (o220 P) (be (o355 P)) bz) (bn (o291 P) (be (o423 P)) bz))))))))
theorem pc19:Hd.Pc pp env T18 342 635 T19 439 751 573 [tp 32] ⟨119,0,127,16⟩ ⟨128,0,181,16⟩:=by
 intro w
 kernel_rfl
def o480 (P:Params):Obj:=⟨.type "dict",none,.dict #[en P "__name__" 165 (.str "law_roomward_k14_machines_told" 751),en P "__doc__" 166 .none,en P "__package__" 167 .none,en P "__loader__" 168 (.builtin "__main__.__loader__#opaque"),en P "__spec__" 169 .none,en P "__annotations__" 170 (.ref 6),en P "__builtins__" 171 (.ref 4),en P "__file__" 173 (.str "/claim/cut.py" 172),en P "__cached__" 174 .none,en P "_wall" 193 (.ref 21),en P "WardError" 213 (.ref 31),en P "NoName" 229 (.ref 44),en P "NoDeed" 245 (.ref 56),en P "NoRoom" 261 (.ref 68),en P "TwiceTold" 277 (.ref 80),en P "TooMany" 293 (.ref 92),en P "NoRule" 309 (.ref 104),en P "NoRow" 325 (.ref 116),en P "NoHold" 341 (.ref 128),en P "NoHolder" 357 (.ref 140),en P "FreeDeed" 373 (.ref 152),en P "NotNow" 389 (.ref 164),en P "NoWarden" 416 (.ref 183),en P "NoText" 441 (.ref 202),en P "NoBook" 466 (.ref 221),en P "LETTERS" 470 (.str "abcdefghijklmnopqrstuvwxyz" 469),en P "FIGURES" 472 (.str "0123456789" 471),en P "MOST_SIGNS" 474 (.int 8 473),en P "MOST_DEEDS" 476 (.int 12 475),en P "is_name" 482 (.ref 228),en P "refuse_names" 491 (.ref 235),en P "weights_of" 501 (.ref 242),en P "marks_of" 510 (.ref 249),en P "Deeds" 597 (.ref 316),en P "MOST_ROOMS" 601 (.int 60 600),en P "named_rooms" 614 (.ref 327),en P "refuse_rooms" 622 (.ref 334),en P "leads_of" 634 (.ref 341),en P "Machine" 750 (.ref 434),en P "_law_mixed" 761 (.ref 445),en P "_law_cell_at" 769 (.ref 452),en P "_law_names_by" 775 (.ref 457),en P "_law_deeds_by" 781 (.ref 462),en P "_law_rooms_by" 787 (.ref 467),en P "_law_machine_by" 793 (.ref 472),en P "_law_plant_by" 799 (.ref 477),en P "_law_machines" 805 (.ref 482),en P "_law_word" 813 (.ref 489),en P "_law_tried" 821 (.ref 496),en P "_law_rooms_of" 827 (.ref 501),en P "_law_doors_told" 841 (.ref 508),en P "_law_told" 847 (.ref 513)] 52,#[]⟩
def o481 (P:Params):Obj:=⟨.none,none,.fields #[.int 1 0,.int 0 0,.ref 20,.int 5 0,.int 0 0,.ref 27,.int 7 0,.int 0 0,.ref 40,.int 9 0,.int 0 0,.ref 52,.int 11 0,.int 0 0,.ref 64,.int 13 0,.int 0 0,.ref 76,.int 15 0,.int 0 0,.ref 88,.int 17 0,.int 0 0,.ref 100,.int 19 0,.int 0 0,.ref 112,.int 21 0,.int 0 0,.ref 124,.int 23 0,.int 0 0,.ref 136,.int 25 0,.int 0 0,.ref 148,.int 27 0,.int 0 0,.ref 160,.int 29 0,.int 0 0,.ref 172,.int 35 0,.int 0 0,.ref 191,.int 39 0,.int 0 0,.ref 210,.int 48 0,.int 0 0,.ref 227,.int 53 0,.int 0 0,.ref 234,.int 63 0,.int 0 0,.ref 241,.int 70 0,.int 0 0,.ref 248,.int 75 0,.int 0 0,.ref 255,.int 108 0,.int 0 0,.ref 326,.int 115 0,.int 0 0,.ref 333,.int 119 0,.int 0 0,.ref 340,.int 128 0,.int 0 0,.ref 347,.int 183 0,.int 0 0,.ref 444,.int 186 0,.int 0 0,.ref 451,.int 190 0,.int 0 0,.ref 456,.int 194 0,.int 0 0,.ref 461,.int 200 0,.int 0 0,.ref 466,.int 204 0,.int 0 0,.ref 471,.int 218 0,.int 0 0,.ref 476,.int 221 0,.int 0 0,.ref 481,.int 223 0,.int 0 0,.ref 488,.int 234 0,.int 0 0,.ref 495,.int 240 0,.int 0 0,.ref 500,.int 244 0,.int 0 0,.ref 507,.int 256 0,.int 0 0,.ref 512],#[]⟩
def o482 (P:Params):Obj:=⟨.type "tuple",none,.seq #[] 0,#[]⟩
def o483 (P:Params):Obj:=⟨.none,none,.fields #[],#[]⟩
def o484 (P:Params):Obj:=⟨.type "tuple",none,.seq #[.str "_law_cell" 756,.str "_law_k" 757,.str "_law_one" 758] 0,#[]⟩
def o485 (P:Params):Obj:=⟨.type "tuple",none,.seq #[] 0,#[]⟩
def o486 (P:Params):Obj:=⟨.none,none,.func ⟨"_law_mixed","_law_mixed",defArgs (tp 34),.stmts (defBody (tp 34)),defScope (tp 34),0,[],.none,.none,.none,.none,none,.none,.none,0⟩,#[]⟩
def o487 (P:Params):Obj:=⟨.type "code",none,.fields #[.str "_law_mixed" 753,.str "_law_mixed" 754,.str "/claim/cut.py" 755,.int 183 0,.int 2 0,.int 0 0,.int 0 0,.int 3 0,.ref 439,.bool true,.int 181 0,.ref 440,.none,.ref 441,.ref 442,.ref 443,.int 759 0,.int 183 0,.str "/claim/cut.py" 760],#[]⟩
def o488 (P:Params):Obj:=⟨.type "function",none,.func ⟨"_law_mixed","_law_mixed",defArgs (tp 34),.stmts (defBody (tp 34)),defScope (tp 34),3,[],.none,.none,.none,.str "law_roomward_k14_machines_told" 751,none,.ref 444,.none,0⟩,#[]⟩
def o489 (P:Params):Obj:=⟨.type "tuple",none,.seq #[] 0,#[]⟩
def o490 (P:Params):Obj:=⟨.none,none,.fields #[],#[]⟩
def o491 (P:Params):Obj:=⟨.type "tuple",none,.seq #[.str "_law_script" 765,.str "_law_k" 766] 0,#[]⟩
def o492 (P:Params):Obj:=⟨.type "tuple",none,.seq #[] 0,#[]⟩
def o493 (P:Params):Obj:=⟨.none,none,.func ⟨"_law_cell_at","_law_cell_at",defArgs (tp 35),.stmts (defBody (tp 35)),defScope (tp 35),0,[],.none,.none,.none,.none,none,.none,.none,0⟩,#[]⟩
def o494 (P:Params):Obj:=⟨.type "code",none,.fields #[.str "_law_cell_at" 762,.str "_law_cell_at" 763,.str "/claim/cut.py" 764,.int 186 0,.int 2 0,.int 0 0,.int 0 0,.int 3 0,.ref 446,.bool true,.int 181 0,.ref 447,.none,.ref 448,.ref 449,.ref 450,.int 767 0,.int 186 0,.str "/claim/cut.py" 768],#[]⟩
def o495 (P:Params):Obj:=⟨.type "function",none,.func ⟨"_law_cell_at","_law_cell_at",defArgs (tp 35),.stmts (defBody (tp 35)),defScope (tp 35),3,[],.none,.none,.none,.str "law_roomward_k14_machines_told" 751,none,.ref 451,.none,0⟩,#[]⟩
def o496 (P:Params):Obj:=⟨.type "tuple",none,.seq #[] 0,#[]⟩
def o497 (P:Params):Obj:=⟨.none,none,.fields #[],#[]⟩
def o498 (P:Params):Obj:=⟨.none,none,.func ⟨"_law_names_by","_law_names_by",defArgs (tp 36),.stmts (defBody (tp 36)),defScope (tp 36),0,[],.none,.none,.none,.none,none,.none,.none,0⟩,#[]⟩
def o499 (P:Params):Obj:=⟨.type "code",none,.fields #[.str "_law_names_by" 770,.str "_law_names_by" 771,.str "/claim/cut.py" 772,.int 190 0,.int 2 0,.int 0 0,.int 0 0,.int 3 0,.ref 453,.bool true,.int 181 0,.ref 454,.none,.none,.none,.ref 455,.int 773 0,.int 190 0,.str "/claim/cut.py" 774],#[]⟩
def o500 (P:Params):Obj:=⟨.type "function",none,.func ⟨"_law_names_by","_law_names_by",defArgs (tp 36),.stmts (defBody (tp 36)),defScope (tp 36),3,[],.none,.none,.none,.str "law_roomward_k14_machines_told" 751,none,.ref 456,.none,0⟩,#[]⟩
def o501 (P:Params):Obj:=⟨.type "tuple",none,.seq #[] 0,#[]⟩
def o502 (P:Params):Obj:=⟨.none,none,.fields #[],#[]⟩
def o503 (P:Params):Obj:=⟨.none,none,.func ⟨"_law_deeds_by","_law_deeds_by",defArgs (tp 37),.stmts (defBody (tp 37)),defScope (tp 37),0,[],.none,.none,.none,.none,none,.none,.none,0⟩,#[]⟩
def o504 (P:Params):Obj:=⟨.type "code",none,.fields #[.str "_law_deeds_by" 776,.str "_law_deeds_by" 777,.str "/claim/cut.py" 778,.int 194 0,.int 1 0,.int 0 0,.int 0 0,.int 3 0,.ref 458,.bool true,.int 181 0,.ref 459,.none,.none,.none,.ref 460,.int 779 0,.int 194 0,.str "/claim/cut.py" 780],#[]⟩
def o505 (P:Params):Obj:=⟨.type "function",none,.func ⟨"_law_deeds_by","_law_deeds_by",defArgs (tp 37),.stmts (defBody (tp 37)),defScope (tp 37),3,[],.none,.none,.none,.str "law_roomward_k14_machines_told" 751,none,.ref 461,.none,0⟩,#[]⟩
def o506 (P:Params):Obj:=⟨.type "tuple",none,.seq #[] 0,#[]⟩
def o507 (P:Params):Obj:=⟨.none,none,.fields #[],#[]⟩
def o508 (P:Params):Obj:=⟨.none,none,.func ⟨"_law_rooms_by","_law_rooms_by",defArgs (tp 38),.stmts (defBody (tp 38)),defScope (tp 38),0,[],.none,.none,.none,.none,none,.none,.none,0⟩,#[]⟩
def o509 (P:Params):Obj:=⟨.type "code",none,.fields #[.str "_law_rooms_by" 782,.str "_law_rooms_by" 783,.str "/claim/cut.py" 784,.int 200 0,.int 2 0,.int 0 0,.int 0 0,.int 3 0,.ref 463,.bool true,.int 181 0,.ref 464,.none,.none,.none,.ref 465,.int 785 0,.int 200 0,.str "/claim/cut.py" 786],#[]⟩
def o510 (P:Params):Obj:=⟨.type "function",none,.func ⟨"_law_rooms_by","_law_rooms_by",defArgs (tp 38),.stmts (defBody (tp 38)),defScope (tp 38),3,[],.none,.none,.none,.str "law_roomward_k14_machines_told" 751,none,.ref 466,.none,0⟩,#[]⟩
def o511 (P:Params):Obj:=⟨.type "tuple",none,.seq #[] 0,#[]⟩
def o512 (P:Params):Obj:=⟨.none,none,.fields #[],#[]⟩
def o513 (P:Params):Obj:=⟨.none,none,.func ⟨"_law_machine_by","_law_machine_by",defArgs (tp 39),.stmts (defBody (tp 39)),defScope (tp 39),0,[],.none,.none,.none,.none,none,.none,.none,0⟩,#[]⟩
def o514 (P:Params):Obj:=⟨.type "code",none,.fields #[.str "_law_machine_by" 788,.str "_law_machine_by" 789,.str "/claim/cut.py" 790,.int 204 0,.int 3 0,.int 0 0,.int 0 0,.int 3 0,.ref 468,.bool true,.int 181 0,.ref 469,.none,.none,.none,.ref 470,.int 791 0,.int 204 0,.str "/claim/cut.py" 792],#[]⟩
def o515 (P:Params):Obj:=⟨.type "function",none,.func ⟨"_law_machine_by","_law_machine_by",defArgs (tp 39),.stmts (defBody (tp 39)),defScope (tp 39),3,[],.none,.none,.none,.str "law_roomward_k14_machines_told" 751,none,.ref 471,.none,0⟩,#[]⟩
def o516 (P:Params):Obj:=⟨.type "tuple",none,.seq #[] 0,#[]⟩
def o517 (P:Params):Obj:=⟨.none,none,.fields #[],#[]⟩
def o518 (P:Params):Obj:=⟨.none,none,.func ⟨"_law_plant_by","_law_plant_by",defArgs (tp 40),.stmts (defBody (tp 40)),defScope (tp 40),0,[],.none,.none,.none,.none,none,.none,.none,0⟩,#[]⟩
def o519 (P:Params):Obj:=⟨.type "code",none,.fields #[.str "_law_plant_by" 794,.str "_law_plant_by" 795,.str "/claim/cut.py" 796,.int 218 0,.int 2 0,.int 0 0,.int 0 0,.int 3 0,.ref 473,.bool true,.int 181 0,.ref 474,.none,.none,.none,.ref 475,.int 797 0,.int 218 0,.str "/claim/cut.py" 798],#[]⟩
def o520 (P:Params):Obj:=⟨.type "function",none,.func ⟨"_law_plant_by","_law_plant_by",defArgs (tp 40),.stmts (defBody (tp 40)),defScope (tp 40),3,[],.none,.none,.none,.str "law_roomward_k14_machines_told" 751,none,.ref 476,.none,0⟩,#[]⟩
def o521 (P:Params):Obj:=⟨.type "tuple",none,.seq #[] 0,#[]⟩
def o522 (P:Params):Obj:=⟨.none,none,.fields #[],#[]⟩
def o523 (P:Params):Obj:=⟨.none,none,.func ⟨"_law_machines","_law_machines",defArgs (tp 41),.stmts (defBody (tp 41)),defScope (tp 41),0,[],.none,.none,.none,.none,none,.none,.none,0⟩,#[]⟩
def o524 (P:Params):Obj:=⟨.type "code",none,.fields #[.str "_law_machines" 800,.str "_law_machines" 801,.str "/claim/cut.py" 802,.int 221 0,.int 2 0,.int 0 0,.int 0 0,.int 3 0,.ref 478,.bool true,.int 181 0,.ref 479,.none,.none,.none,.ref 480,.int 803 0,.int 221 0,.str "/claim/cut.py" 804],#[]⟩
def o525 (P:Params):Obj:=⟨.type "function",none,.func ⟨"_law_machines","_law_machines",defArgs (tp 41),.stmts (defBody (tp 41)),defScope (tp 41),3,[],.none,.none,.none,.str "law_roomward_k14_machines_told" 751,none,.ref 481,.none,0⟩,#[]⟩
def o526 (P:Params):Obj:=⟨.type "tuple",none,.seq #[] 0,#[]⟩
def o527 (P:Params):Obj:=⟨.none,none,.fields #[],#[]⟩
def o528 (P:Params):Obj:=⟨.type "tuple",none,.seq #[.str "_law_e" 809,.str "_law_words" 810] 0,#[]⟩
def o529 (P:Params):Obj:=⟨.type "tuple",none,.seq #[] 0,#[]⟩
def o530 (P:Params):Obj:=⟨.none,none,.func ⟨"_law_word","_law_word",defArgs (tp 42),.stmts (defBody (tp 42)),defScope (tp 42),0,[],.none,.none,.none,.none,none,.none,.none,0⟩,#[]⟩
def o531 (P:Params):Obj:=⟨.type "code",none,.fields #[.str "_law_word" 806,.str "_law_word" 807,.str "/claim/cut.py" 808,.int 223 0,.int 1 0,.int 0 0,.int 0 0,.int 3 0,.ref 483,.bool true,.int 181 0,.ref 484,.none,.ref 485,.ref 486,.ref 487,.int 811 0,.int 223 0,.str "/claim/cut.py" 812],#[]⟩
def o532 (P:Params):Obj:=⟨.type "function",none,.func ⟨"_law_word","_law_word",defArgs (tp 42),.stmts (defBody (tp 42)),defScope (tp 42),3,[],.none,.none,.none,.str "law_roomward_k14_machines_told" 751,none,.ref 488,.none,0⟩,#[]⟩
def o533 (P:Params):Obj:=⟨.type "tuple",none,.seq #[] 0,#[]⟩
def o534 (P:Params):Obj:=⟨.none,none,.fields #[],#[]⟩
def o535 (P:Params):Obj:=⟨.type "tuple",none,.seq #[.str "_law_deed" 817,.str "_law_e" 818] 0,#[]⟩
def o536 (P:Params):Obj:=⟨.type "tuple",none,.seq #[] 0,#[]⟩
def o537 (P:Params):Obj:=⟨.none,none,.func ⟨"_law_tried","_law_tried",defArgs (tp 43),.stmts (defBody (tp 43)),defScope (tp 43),0,[],.none,.none,.none,.none,none,.none,.none,0⟩,#[]⟩
def o538 (P:Params):Obj:=⟨.type "code",none,.fields #[.str "_law_tried" 814,.str "_law_tried" 815,.str "/claim/cut.py" 816,.int 234 0,.int 1 0,.int 0 0,.int 0 0,.int 3 0,.ref 490,.bool true,.int 181 0,.ref 491,.none,.ref 492,.ref 493,.ref 494,.int 819 0,.int 234 0,.str "/claim/cut.py" 820],#[]⟩
def o539 (P:Params):Obj:=⟨.type "function",none,.func ⟨"_law_tried","_law_tried",defArgs (tp 43),.stmts (defBody (tp 43)),defScope (tp 43),3,[],.none,.none,.none,.str "law_roomward_k14_machines_told" 751,none,.ref 495,.none,0⟩,#[]⟩
def o540 (P:Params):Obj:=⟨.type "tuple",none,.seq #[] 0,#[]⟩
def o541 (P:Params):Obj:=⟨.none,none,.fields #[],#[]⟩
def o542 (P:Params):Obj:=⟨.none,none,.func ⟨"_law_rooms_of","_law_rooms_of",defArgs (tp 44),.stmts (defBody (tp 44)),defScope (tp 44),0,[],.none,.none,.none,.none,none,.none,.none,0⟩,#[]⟩
def o543 (P:Params):Obj:=⟨.type "code",none,.fields #[.str "_law_rooms_of" 822,.str "_law_rooms_of" 823,.str "/claim/cut.py" 824,.int 240 0,.int 1 0,.int 0 0,.int 0 0,.int 3 0,.ref 497,.bool true,.int 181 0,.ref 498,.none,.none,.none,.ref 499,.int 825 0,.int 240 0,.str "/claim/cut.py" 826],#[]⟩
def o544 (P:Params):Obj:=⟨.type "function",none,.func ⟨"_law_rooms_of","_law_rooms_of",defArgs (tp 44),.stmts (defBody (tp 44)),defScope (tp 44),3,[],.none,.none,.none,.str "law_roomward_k14_machines_told" 751,none,.ref 500,.none,0⟩,#[]⟩
def o545 (P:Params):Obj:=⟨.type "tuple",none,.seq #[] 0,#[]⟩
def o546 (P:Params):Obj:=⟨.none,none,.fields #[],#[]⟩
def o547 (P:Params):Obj:=⟨.type "tuple",none,.seq #[.str "_law_machine" 831,.str "_law_row" 832,.str "_law_names" 833,.str "_law_room" 834,.str "_law_due" 835,.str "_law_one" 836,.str "_law_deed" 837,.str "_law_other" 838] 0,#[]⟩
def o548 (P:Params):Obj:=⟨.type "tuple",none,.seq #[] 0,#[]⟩
def o549 (P:Params):Obj:=⟨.none,none,.func ⟨"_law_doors_told","_law_doors_told",defArgs (tp 45),.stmts (defBody (tp 45)),defScope (tp 45),0,[],.none,.none,.none,.none,none,.none,.none,0⟩,#[]⟩
def o550 (P:Params):Obj:=⟨.type "code",none,.fields #[.str "_law_doors_told" 828,.str "_law_doors_told" 829,.str "/claim/cut.py" 830,.int 244 0,.int 3 0,.int 0 0,.int 0 0,.int 3 0,.ref 502,.bool true,.int 181 0,.ref 503,.none,.ref 504,.ref 505,.ref 506,.int 839 0,.int 244 0,.str "/claim/cut.py" 840],#[]⟩
def o551 (P:Params):Obj:=⟨.type "function",none,.func ⟨"_law_doors_told","_law_doors_told",defArgs (tp 45),.stmts (defBody (tp 45)),defScope (tp 45),3,[],.none,.none,.none,.str "law_roomward_k14_machines_told" 751,none,.ref 507,.none,0⟩,#[]⟩
def o552 (P:Params):Obj:=⟨.type "tuple",none,.seq #[] 0,#[]⟩
def o553 (P:Params):Obj:=⟨.none,none,.fields #[],#[]⟩
def o554 (P:Params):Obj:=⟨.none,none,.func ⟨"_law_told","_law_told",defArgs (tp 46),.stmts (defBody (tp 46)),defScope (tp 46),0,[],.none,.none,.none,.none,none,.none,.none,0⟩,#[]⟩
def o555 (P:Params):Obj:=⟨.type "code",none,.fields #[.str "_law_told" 842,.str "_law_told" 843,.str "/claim/cut.py" 844,.int 256 0,.int 2 0,.int 0 0,.int 0 0,.int 3 0,.ref 509,.bool true,.int 181 0,.ref 510,.none,.none,.none,.ref 511,.int 845 0,.int 256 0,.str "/claim/cut.py" 846],#[]⟩
def o556 (P:Params):Obj:=⟨.type "function",none,.func ⟨"_law_told","_law_told",defArgs (tp 46),.stmts (defBody (tp 46)),defScope (tp 46),3,[],.none,.none,.none,.str "law_roomward_k14_machines_told" 751,none,.ref 512,.none,0⟩,#[]⟩
noncomputable def T20 (P:Params):BT:=(bn (boot_o_0 P) (bn (boot_o_1 P) (bn (o480 P) (bn (boot_o_7 P) (bn (o6 P) (bn (o237 P) (bn (o63 P) (bn (o142 P) (bn (o292 P) (be (o554 P)) bz) (be (o424 P))) (bn (o221 P) (be (o356 P)) (be (o490 P)))) (bn (o104 P) (bn (o183 P) (be (o324 P)) (be (o456 P))) (bn (o256 P) (be (o392 P)) (be (o522 P))))) (bn (o44 P) (bn (o82 P) (bn (o164 P) (be (o308 P)) (be (o440 P))) (bn (o240 P) (be (o374 P)) (be (o506 P)))) (bn (o123 P) (bn (o202 P) (be (o340 P)) (be (o472 P))) (bn (o272 P) (be (o408 P)) (be (o538 P)))))) (bn (o14 P) (bn (o33 P) (bn (o74 P) (bn (o153 P) (be (o300 P)) (be (o432 P))) (bn (o229 P) (be (o366 P)) (be (o498 P)))) (bn (o112 P) (bn (o194 P) (be (o332 P)) (be (o464 P))) (bn (o264 P) (be (o400 P)) (be (o530 P))))) (bn (o52 P) (bn (o93 P) (bn (o172 P) (be (o316 P)) (be (o448 P))) (bn (o248 P) (be (o384 P)) (be (o514 P)))) (bn (o134 P) (bn (o210 P) (be (o348 P)) (be (o482 P))) (bn (o282 P) (be (o416 P)) (be (o546 P))))))) (bn (o0 P) (bn (o10 P) (bn (o29 P) (bn (o67 P) (bn (o149 P) (be (o296 P)) (be (o428 P))) (bn (o225 P) (be (o362 P)) (be (o494 P)))) (bn (o108 P) (bn (o187 P) (be (o328 P)) (be (o460 P))) (bn (o260 P) (be (o396 P)) (be (o526 P))))) (bn (o48 P) (bn (o89 P) (bn (o168 P) (be (o312 P)) (be (o444 P))) (bn (o244 P) (be (o378 P)) (be (o510 P)))) (bn (o127 P) (bn (o206 P) (be (o344 P)) (be (o476 P))) (bn (o278 P) (be (o412 P)) (be (o542 P)))))) (bn (o18 P) (bn (o37 P) (bn (o78 P) (bn (o157 P) (be (o304 P)) (be (o436 P))) (bn (o233 P) (be (o370 P)) (be (o502 P)))) (bn (o119 P) (bn (o198 P) (be (o336 P)) (be (o468 P))) (bn (o268 P) (be (o404 P)) (be (o534 P))))) (bn (o59 P) (bn (o97 P) (bn (o179 P) (be (o320 P)) (be (o452 P))) (bn (o252 P) (be (o388 P)) (be (o518 P)))) (bn (o138 P) (bn (o217 P) (be (o352 P)) (be (o486 P))) (bn (o288 P) (be (o420 P)) (be (o550 P)))))))) (bn (boot_o_5 P) (bn (boot_o_9 P) (bn (o8 P) (bn (o24 P) (bn (o65 P) (bn (o144 P) (bn (o294 P) (be (o556 P)) bz) (be (o426 P))) (bn (o223 P) (be (o360 P)) (be (o492 P)))) (bn (o106 P) (bn (o185 P) (be (o326 P)) (be (o458 P))) (bn (o258 P) (be (o394 P)) (be (o524 P))))) (bn (o46 P) (bn (o84 P) (bn (o166 P) (be (o310 P)) (be (o442 P))) (bn (o242 P) (be (o376 P)) (be (o508 P)))) (bn (o125 P) (bn (o204 P) (be (o342 P)) (be (o474 P))) (bn (o274 P) (be (o410 P)) (be (o540 P)))))) (bn (o16 P) (bn (o35 P) (bn (o76 P) (bn (o155 P) (be (o302 P)) (be (o434 P))) (bn (o231 P) (be (o368 P)) (be (o500 P)))) (bn (o114 P) (bn (o196 P) (be (o334 P)) (be (o466 P))) (bn (o266 P) (be (o402 P)) (be (o532 P))))) (bn (o54 P) (bn (o95 P) (bn (o174 P) (be (o318 P)) (be (o450 P))) (bn (o250 P) (be (o386 P)) (be (o516 P)))) (bn (o136 P) (bn (o212 P) (be (o350 P)) (be (o484 P))) (bn (o284 P) (be (o418 P)) (be (o548 P))))))) (bn (o2 P) (bn (o12 P) (bn (o31 P) (bn (o69 P) (bn (o151 P) (be (o298 P)) (be (o430 P))) (bn (o227 P) (be (o364 P)) (be (o496 P)))) (bn (o110 P) (bn (o189 P) (be (o330 P)) (be (o462 P))) (bn (o262 P) (be (o398 P)) (be (o528 P))))) (bn (o50 P) (bn (o91 P) (bn (o170 P) (be (o314 P)) (be (o446 P))) (bn (o246 P) (be (o380 P)) (be (o512 P)))) (bn (o129 P) (bn (o208 P) (be (o346 P)) (be (o478 P))) (bn (o280 P) (be (o414 P)) (be (o544 P)))))) (bn (o20 P) (bn (o39 P) (bn (o80 P) (bn (o159 P) (be (o306 P)) (be (o438 P))) (bn (o238 P) (be (o372 P)) (be (o504 P)))) (bn (o121 P) (bn (o200 P) (be (o338 P)) (be (o470 P))) (bn (o270 P) (be (o406 P)) (be (o536 P))))) (bn (o61 P) (bn (o99 P) (bn (o181 P) (be (o322 P)) (be (o454 P))) (bn (o254 P) (be (o390 P)) (be (o520 P)))) (bn (o140 P) (bn (o219 P) (be (o354 P)) (be (o488 P))) (bn (o290 P) (be (o422 P)) (be (o552 P))))))))) (bn (boot_o_2 P) (bn (boot_o_4 P) (bn (boot_o_8 P) (bn (o7 P) (bn (o23 P) (bn (o64 P) (bn (o143 P) (bn (o293 P) (be (o555 P)) bz) (be (o425 P))) (bn (o222 P) (be (o357 P)) (be (o491 P)))) (bn (o105 P) (bn (o184 P) (be (o325 P)) (be (o457 P))) (bn (o257 P) (be (o393 P)) (be (o523 P))))) (bn (o45 P) (bn (o83 P) (bn (o165 P) (be (o309 P)) (be (o441 P))) (bn (o241 P) (be (o375 P)) (be (o507 P)))) (bn (o124 P) (bn (o203 P) (be (o341 P)) (be (o473 P))) (bn (o273 P) (be (o409 P)) (be (o539 P)))))) (bn (o15 P) (bn (o34 P) (bn (o75 P) (bn (o154 P) (be (o301 P)) (be (o433 P))) (bn (o230 P) (be (o367 P)) (be (o499 P)))) (bn (o113 P) (bn (o195 P) (be (o333 P)) (be (o465 P))) (bn (o265 P) (be (o401 P)) (be (o531 P))))) (bn (o53 P) (bn (o94 P) (bn (o173 P) (be (o317 P)) (be (o449 P))) (bn (o249 P) (be (o385 P)) (be (o515 P)))) (bn (o135 P) (bn (o211 P) (be (o349 P)) (be (o483 P))) (bn (o283 P) (be (o417 P)) (be (o547 P))))))) (bn (o481 P) (bn (o11 P) (bn (o30 P) (bn (o68 P) (bn (o150 P) (be (o297 P)) (be (o429 P))) (bn (o226 P) (be (o363 P)) (be (o495 P)))) (bn (o109 P) (bn (o188 P) (be (o329 P)) (be (o461 P))) (bn (o261 P) (be (o397 P)) (be (o527 P))))) (bn (o49 P) (bn (o90 P) (bn (o169 P) (be (o313 P)) (be (o445 P))) (bn (o245 P) (be (o379 P)) (be (o511 P)))) (bn (o128 P) (bn (o207 P) (be (o345 P)) (be (o477 P))) (bn (o279 P) (be (o413 P)) (be (o543 P)))))) (bn (o19 P) (bn (o38 P) (bn (o79 P) (bn (o158 P) (be (o305 P)) (be (o437 P))) (bn (o234 P) (be (o371 P)) (be (o503 P)))) (bn (o120 P) (bn (o199 P) (be (o337 P)) (be (o469 P))) (bn (o269 P) (be (o405 P)) (be (o535 P))))) (bn (o60 P) (bn (o98 P) (bn (o180 P) (be (o321 P)) (be (o453 P))) (bn (o253 P) (be (o389 P)) (be (o519 P)))) (bn (o139 P) (bn (o218 P) (be (o353 P)) (be (o487 P))) (bn (o289 P) (be (o421 P)) (be (o551 P)))))))) (bn (boot_o_6 P) (bn (boot_o_10 P) (bn (o9 P) (bn (o25 P) (bn (o66 P) (bn (o145 P) (be (o295 P)) (be (o427 P))) (bn (o224 P) (be (o361 P)) (be (o493 P)))) (bn (o107 P) (bn (o186 P) (be (o327 P)) (be (o459 P))) (bn (o259 P) (be (o395 P)) (be (o525 P))))) (bn (o47 P) (bn (o85 P) (bn (o167 P) (be (o311 P)) (be (o443 P))) (bn (o243 P) (be (o377 P)) (be (o509 P)))) (bn (o126 P) (bn (o205 P) (be (o343 P)) (be (o475 P))) (bn (o275 P) (be (o411 P)) (be (o541 P)))))) (bn (o17 P) (bn (o36 P) (bn (o77 P) (bn (o156 P) (be (o303 P)) (be (o435 P))) (bn (o232 P) (be (o369 P)) (be (o501 P)))) (bn (o115 P) (bn (o197 P) (be (o335 P)) (be (o467 P))) (bn (o267 P) (be (o403 P)) (be (o533 P))))) (bn (o55 P) (bn (o96 P) (bn (o175 P) (be (o319 P)) (be (o451 P))) (bn (o251 P) (be (o387 P)) (be (o517 P)))) (bn (o137 P) (bn (o216 P) (be (o351 P)) (be (o485 P))) (bn (o287 P) (be (o419 P)) (be (o549 P))))))) (bn (o3 P) (bn (o13 P) (bn (o32 P) (bn (o70 P) (bn (o152 P) (be (o299 P)) (be (o431 P))) (bn (o228 P) (be (o365 P)) (be (o497 P)))) (bn (o111 P) (bn (o190 P) (be (o331 P)) (be (o463 P))) (bn (o263 P) (be (o399 P)) (be (o529 P))))) (bn (o51 P) (bn (o92 P) (bn (o171 P) (be (o315 P)) (be (o447 P))) (bn (o247 P) (be (o383 P)) (be (o513 P)))) (bn (o130 P) (bn (o209 P) (be (o347 P)) (be (o479 P))) (bn (o281 P) (be (o415 P)) (be (o545 P)))))) (bn (o21 P) (bn (o40 P) (bn (o81 P) (bn (o160 P) (be (o307 P)) (be (o439 P))) (bn (o239 P) (be (o373 P)) (be (o505 P)))) (bn (o122 P) (bn (o201 P) (be (o339 P)) (be (o471 P))) (bn (o271 P) (be (o407 P)) (be (o537 P))))) (bn (o62 P) (bn (o100 P) (bn (o182 P) (be (o323 P)) (be (o455 P))) (bn (o255 P) (be (o391 P)) (be (o521 P)))) (bn (o141 P) (bn (o220 P) (be (o355 P)) (be (o489 P))) (bn (o291 P) (be (o423 P)) (be (o553 P))))))))))
theorem pc20:Hd.Pc pp env T19 439 751 T20 514 848 375 [tp 33,tp 34,tp 35,tp 36,tp 37,tp 38,tp 39,tp 40,tp 41,tp 42,tp 43,tp 44,tp 45,tp 46] ⟨128,0,181,16⟩ ⟨256,0,261,95⟩:=by
 intro w
 kernel_rfl
def o557 (P:Params):Obj:=⟨.type "dict",none,.dict #[en P "__name__" 165 (.str "law_roomward_k14_machines_told" 751),en P "__doc__" 166 .none,en P "__package__" 167 .none,en P "__loader__" 168 (.builtin "__main__.__loader__#opaque"),en P "__spec__" 169 .none,en P "__annotations__" 170 (.ref 6),en P "__builtins__" 171 (.ref 4),en P "__file__" 173 (.str "/claim/cut.py" 172),en P "__cached__" 174 .none,en P "_wall" 193 (.ref 21),en P "WardError" 213 (.ref 31),en P "NoName" 229 (.ref 44),en P "NoDeed" 245 (.ref 56),en P "NoRoom" 261 (.ref 68),en P "TwiceTold" 277 (.ref 80),en P "TooMany" 293 (.ref 92),en P "NoRule" 309 (.ref 104),en P "NoRow" 325 (.ref 116),en P "NoHold" 341 (.ref 128),en P "NoHolder" 357 (.ref 140),en P "FreeDeed" 373 (.ref 152),en P "NotNow" 389 (.ref 164),en P "NoWarden" 416 (.ref 183),en P "NoText" 441 (.ref 202),en P "NoBook" 466 (.ref 221),en P "LETTERS" 470 (.str "abcdefghijklmnopqrstuvwxyz" 469),en P "FIGURES" 472 (.str "0123456789" 471),en P "MOST_SIGNS" 474 (.int 8 473),en P "MOST_DEEDS" 476 (.int 12 475),en P "is_name" 482 (.ref 228),en P "refuse_names" 491 (.ref 235),en P "weights_of" 501 (.ref 242),en P "marks_of" 510 (.ref 249),en P "Deeds" 597 (.ref 316),en P "MOST_ROOMS" 601 (.int 60 600),en P "named_rooms" 614 (.ref 327),en P "refuse_rooms" 622 (.ref 334),en P "leads_of" 634 (.ref 341),en P "Machine" 750 (.ref 434),en P "_law_mixed" 761 (.ref 445),en P "_law_cell_at" 769 (.ref 452),en P "_law_names_by" 775 (.ref 457),en P "_law_deeds_by" 781 (.ref 462),en P "_law_rooms_by" 787 (.ref 467),en P "_law_machine_by" 793 (.ref 472),en P "_law_plant_by" 799 (.ref 477),en P "_law_machines" 805 (.ref 482),en P "_law_word" 813 (.ref 489),en P "_law_tried" 821 (.ref 496),en P "_law_rooms_of" 827 (.ref 501),en P "_law_doors_told" 841 (.ref 508),en P "_law_told" 847 (.ref 513),en P "_law_odd" 862 (.ref 520),en P "law" 868 (.ref 525)] 54,#[]⟩
def o558 (P:Params):Obj:=⟨.none,none,.fields #[.int 1 0,.int 0 0,.ref 20,.int 5 0,.int 0 0,.ref 27,.int 7 0,.int 0 0,.ref 40,.int 9 0,.int 0 0,.ref 52,.int 11 0,.int 0 0,.ref 64,.int 13 0,.int 0 0,.ref 76,.int 15 0,.int 0 0,.ref 88,.int 17 0,.int 0 0,.ref 100,.int 19 0,.int 0 0,.ref 112,.int 21 0,.int 0 0,.ref 124,.int 23 0,.int 0 0,.ref 136,.int 25 0,.int 0 0,.ref 148,.int 27 0,.int 0 0,.ref 160,.int 29 0,.int 0 0,.ref 172,.int 35 0,.int 0 0,.ref 191,.int 39 0,.int 0 0,.ref 210,.int 48 0,.int 0 0,.ref 227,.int 53 0,.int 0 0,.ref 234,.int 63 0,.int 0 0,.ref 241,.int 70 0,.int 0 0,.ref 248,.int 75 0,.int 0 0,.ref 255,.int 108 0,.int 0 0,.ref 326,.int 115 0,.int 0 0,.ref 333,.int 119 0,.int 0 0,.ref 340,.int 128 0,.int 0 0,.ref 347,.int 183 0,.int 0 0,.ref 444,.int 186 0,.int 0 0,.ref 451,.int 190 0,.int 0 0,.ref 456,.int 194 0,.int 0 0,.ref 461,.int 200 0,.int 0 0,.ref 466,.int 204 0,.int 0 0,.ref 471,.int 218 0,.int 0 0,.ref 476,.int 221 0,.int 0 0,.ref 481,.int 223 0,.int 0 0,.ref 488,.int 234 0,.int 0 0,.ref 495,.int 240 0,.int 0 0,.ref 500,.int 244 0,.int 0 0,.ref 507,.int 256 0,.int 0 0,.ref 512,.int 262 0,.int 0 0,.ref 519,.int 270 0,.int 0 0,.ref 524],#[]⟩
def o559 (P:Params):Obj:=⟨.type "tuple",none,.seq #[] 0,#[]⟩
def o560 (P:Params):Obj:=⟨.none,none,.fields #[],#[]⟩
def o561 (P:Params):Obj:=⟨.type "tuple",none,.seq #[.str "_law_machine" 851,.str "_law_room" 852,.str "_law_names" 853,.str "_law_cell" 854,.str "_law_words" 855] 0,#[]⟩
def o562 (P:Params):Obj:=⟨.type "tuple",none,.seq #[.str "_law_machine" 856,.str "_law_room" 857,.str "_law_odd_here" 858,.str "_law_some" 859] 0,#[]⟩
def o563 (P:Params):Obj:=⟨.none,none,.func ⟨"_law_odd","_law_odd",defArgs (tp 47),.stmts (defBody (tp 47)),defScope (tp 47),0,[],.none,.none,.none,.none,none,.none,.none,0⟩,#[]⟩
def o564 (P:Params):Obj:=⟨.type "code",none,.fields #[.str "_law_odd" 848,.str "_law_odd" 849,.str "/claim/cut.py" 850,.int 262 0,.int 4 0,.int 0 0,.int 0 0,.int 3 0,.ref 514,.bool true,.int 181 0,.ref 515,.none,.ref 516,.ref 517,.ref 518,.int 860 0,.int 262 0,.str "/claim/cut.py" 861],#[]⟩
def o565 (P:Params):Obj:=⟨.type "function",none,.func ⟨"_law_odd","_law_odd",defArgs (tp 47),.stmts (defBody (tp 47)),defScope (tp 47),3,[],.none,.none,.none,.str "law_roomward_k14_machines_told" 751,none,.ref 519,.none,0⟩,#[]⟩
def o566 (P:Params):Obj:=⟨.type "tuple",none,.seq #[] 0,#[]⟩
def o567 (P:Params):Obj:=⟨.none,none,.fields #[],#[]⟩
def o568 (P:Params):Obj:=⟨.none,none,.func ⟨"law","law",defArgs (tp 48),.stmts (defBody (tp 48)),defScope (tp 48),0,[],.none,.none,.none,.none,none,.none,.none,0⟩,#[]⟩
def o569 (P:Params):Obj:=⟨.type "code",none,.fields #[.str "law" 863,.str "law" 864,.str "/claim/cut.py" 865,.int 270 0,.int 1 0,.int 0 0,.int 0 0,.int 3 0,.ref 521,.bool true,.int 181 0,.ref 522,.none,.none,.none,.ref 523,.int 866 0,.int 270 0,.str "/claim/cut.py" 867],#[]⟩
def o570 (P:Params):Obj:=⟨.type "function",none,.func ⟨"law","law",defArgs (tp 48),.stmts (defBody (tp 48)),defScope (tp 48),3,[],.none,.none,.none,.str "law_roomward_k14_machines_told" 751,none,.ref 524,.none,0⟩,#[]⟩
noncomputable def T21 (P:Params):BT:=(bn (boot_o_0 P) (bn (boot_o_1 P) (bn (o557 P) (bn (boot_o_7 P) (bn (o6 P) (bn (o237 P) (bn (o63 P) (bn (o142 P) (bn (o292 P) (be (o554 P)) bz) (be (o424 P))) (bn (o221 P) (be (o356 P)) (be (o490 P)))) (bn (o104 P) (bn (o183 P) (be (o324 P)) (be (o456 P))) (bn (o256 P) (be (o392 P)) (be (o522 P))))) (bn (o44 P) (bn (o82 P) (bn (o164 P) (be (o308 P)) (be (o440 P))) (bn (o240 P) (be (o374 P)) (be (o506 P)))) (bn (o123 P) (bn (o202 P) (be (o340 P)) (be (o472 P))) (bn (o272 P) (be (o408 P)) (be (o538 P)))))) (bn (o14 P) (bn (o33 P) (bn (o74 P) (bn (o153 P) (bn (o300 P) (be (o564 P)) bz) (be (o432 P))) (bn (o229 P) (be (o366 P)) (be (o498 P)))) (bn (o112 P) (bn (o194 P) (be (o332 P)) (be (o464 P))) (bn (o264 P) (be (o400 P)) (be (o530 P))))) (bn (o52 P) (bn (o93 P) (bn (o172 P) (be (o316 P)) (be (o448 P))) (bn (o248 P) (be (o384 P)) (be (o514 P)))) (bn (o134 P) (bn (o210 P) (be (o348 P)) (be (o482 P))) (bn (o282 P) (be (o416 P)) (be (o546 P))))))) (bn (o0 P) (bn (o10 P) (bn (o29 P) (bn (o67 P) (bn (o149 P) (bn (o296 P) (be (o560 P)) bz) (be (o428 P))) (bn (o225 P) (be (o362 P)) (be (o494 P)))) (bn (o108 P) (bn (o187 P) (be (o328 P)) (be (o460 P))) (bn (o260 P) (be (o396 P)) (be (o526 P))))) (bn (o48 P) (bn (o89 P) (bn (o168 P) (be (o312 P)) (be (o444 P))) (bn (o244 P) (be (o378 P)) (be (o510 P)))) (bn (o127 P) (bn (o206 P) (be (o344 P)) (be (o476 P))) (bn (o278 P) (be (o412 P)) (be (o542 P)))))) (bn (o18 P) (bn (o37 P) (bn (o78 P) (bn (o157 P) (bn (o304 P) (be (o568 P)) bz) (be (o436 P))) (bn (o233 P) (be (o370 P)) (be (o502 P)))) (bn (o119 P) (bn (o198 P) (be (o336 P)) (be (o468 P))) (bn (o268 P) (be (o404 P)) (be (o534 P))))) (bn (o59 P) (bn (o97 P) (bn (o179 P) (be (o320 P)) (be (o452 P))) (bn (o252 P) (be (o388 P)) (be (o518 P)))) (bn (o138 P) (bn (o217 P) (be (o352 P)) (be (o486 P))) (bn (o288 P) (be (o420 P)) (be (o550 P)))))))) (bn (boot_o_5 P) (bn (boot_o_9 P) (bn (o8 P) (bn (o24 P) (bn (o65 P) (bn (o144 P) (bn (o294 P) (be (o556 P)) bz) (be (o426 P))) (bn (o223 P) (be (o360 P)) (be (o492 P)))) (bn (o106 P) (bn (o185 P) (be (o326 P)) (be (o458 P))) (bn (o258 P) (be (o394 P)) (be (o524 P))))) (bn (o46 P) (bn (o84 P) (bn (o166 P) (be (o310 P)) (be (o442 P))) (bn (o242 P) (be (o376 P)) (be (o508 P)))) (bn (o125 P) (bn (o204 P) (be (o342 P)) (be (o474 P))) (bn (o274 P) (be (o410 P)) (be (o540 P)))))) (bn (o16 P) (bn (o35 P) (bn (o76 P) (bn (o155 P) (bn (o302 P) (be (o566 P)) bz) (be (o434 P))) (bn (o231 P) (be (o368 P)) (be (o500 P)))) (bn (o114 P) (bn (o196 P) (be (o334 P)) (be (o466 P))) (bn (o266 P) (be (o402 P)) (be (o532 P))))) (bn (o54 P) (bn (o95 P) (bn (o174 P) (be (o318 P)) (be (o450 P))) (bn (o250 P) (be (o386 P)) (be (o516 P)))) (bn (o136 P) (bn (o212 P) (be (o350 P)) (be (o484 P))) (bn (o284 P) (be (o418 P)) (be (o548 P))))))) (bn (o2 P) (bn (o12 P) (bn (o31 P) (bn (o69 P) (bn (o151 P) (bn (o298 P) (be (o562 P)) bz) (be (o430 P))) (bn (o227 P) (be (o364 P)) (be (o496 P)))) (bn (o110 P) (bn (o189 P) (be (o330 P)) (be (o462 P))) (bn (o262 P) (be (o398 P)) (be (o528 P))))) (bn (o50 P) (bn (o91 P) (bn (o170 P) (be (o314 P)) (be (o446 P))) (bn (o246 P) (be (o380 P)) (be (o512 P)))) (bn (o129 P) (bn (o208 P) (be (o346 P)) (be (o478 P))) (bn (o280 P) (be (o414 P)) (be (o544 P)))))) (bn (o20 P) (bn (o39 P) (bn (o80 P) (bn (o159 P) (bn (o306 P) (be (o570 P)) bz) (be (o438 P))) (bn (o238 P) (be (o372 P)) (be (o504 P)))) (bn (o121 P) (bn (o200 P) (be (o338 P)) (be (o470 P))) (bn (o270 P) (be (o406 P)) (be (o536 P))))) (bn (o61 P) (bn (o99 P) (bn (o181 P) (be (o322 P)) (be (o454 P))) (bn (o254 P) (be (o390 P)) (be (o520 P)))) (bn (o140 P) (bn (o219 P) (be (o354 P)) (be (o488 P))) (bn (o290 P) (be (o422 P)) (be (o552 P))))))))) (bn (boot_o_2 P) (bn (boot_o_4 P) (bn (boot_o_8 P) (bn (o7 P) (bn (o23 P) (bn (o64 P) (bn (o143 P) (bn (o293 P) (be (o555 P)) bz) (be (o425 P))) (bn (o222 P) (be (o357 P)) (be (o491 P)))) (bn (o105 P) (bn (o184 P) (be (o325 P)) (be (o457 P))) (bn (o257 P) (be (o393 P)) (be (o523 P))))) (bn (o45 P) (bn (o83 P) (bn (o165 P) (be (o309 P)) (be (o441 P))) (bn (o241 P) (be (o375 P)) (be (o507 P)))) (bn (o124 P) (bn (o203 P) (be (o341 P)) (be (o473 P))) (bn (o273 P) (be (o409 P)) (be (o539 P)))))) (bn (o15 P) (bn (o34 P) (bn (o75 P) (bn (o154 P) (bn (o301 P) (be (o565 P)) bz) (be (o433 P))) (bn (o230 P) (be (o367 P)) (be (o499 P)))) (bn (o113 P) (bn (o195 P) (be (o333 P)) (be (o465 P))) (bn (o265 P) (be (o401 P)) (be (o531 P))))) (bn (o53 P) (bn (o94 P) (bn (o173 P) (be (o317 P)) (be (o449 P))) (bn (o249 P) (be (o385 P)) (be (o515 P)))) (bn (o135 P) (bn (o211 P) (be (o349 P)) (be (o483 P))) (bn (o283 P) (be (o417 P)) (be (o547 P))))))) (bn (o558 P) (bn (o11 P) (bn (o30 P) (bn (o68 P) (bn (o150 P) (bn (o297 P) (be (o561 P)) bz) (be (o429 P))) (bn (o226 P) (be (o363 P)) (be (o495 P)))) (bn (o109 P) (bn (o188 P) (be (o329 P)) (be (o461 P))) (bn (o261 P) (be (o397 P)) (be (o527 P))))) (bn (o49 P) (bn (o90 P) (bn (o169 P) (be (o313 P)) (be (o445 P))) (bn (o245 P) (be (o379 P)) (be (o511 P)))) (bn (o128 P) (bn (o207 P) (be (o345 P)) (be (o477 P))) (bn (o279 P) (be (o413 P)) (be (o543 P)))))) (bn (o19 P) (bn (o38 P) (bn (o79 P) (bn (o158 P) (bn (o305 P) (be (o569 P)) bz) (be (o437 P))) (bn (o234 P) (be (o371 P)) (be (o503 P)))) (bn (o120 P) (bn (o199 P) (be (o337 P)) (be (o469 P))) (bn (o269 P) (be (o405 P)) (be (o535 P))))) (bn (o60 P) (bn (o98 P) (bn (o180 P) (be (o321 P)) (be (o453 P))) (bn (o253 P) (be (o389 P)) (be (o519 P)))) (bn (o139 P) (bn (o218 P) (be (o353 P)) (be (o487 P))) (bn (o289 P) (be (o421 P)) (be (o551 P)))))))) (bn (boot_o_6 P) (bn (boot_o_10 P) (bn (o9 P) (bn (o25 P) (bn (o66 P) (bn (o145 P) (bn (o295 P) (be (o559 P)) bz) (be (o427 P))) (bn (o224 P) (be (o361 P)) (be (o493 P)))) (bn (o107 P) (bn (o186 P) (be (o327 P)) (be (o459 P))) (bn (o259 P) (be (o395 P)) (be (o525 P))))) (bn (o47 P) (bn (o85 P) (bn (o167 P) (be (o311 P)) (be (o443 P))) (bn (o243 P) (be (o377 P)) (be (o509 P)))) (bn (o126 P) (bn (o205 P) (be (o343 P)) (be (o475 P))) (bn (o275 P) (be (o411 P)) (be (o541 P)))))) (bn (o17 P) (bn (o36 P) (bn (o77 P) (bn (o156 P) (bn (o303 P) (be (o567 P)) bz) (be (o435 P))) (bn (o232 P) (be (o369 P)) (be (o501 P)))) (bn (o115 P) (bn (o197 P) (be (o335 P)) (be (o467 P))) (bn (o267 P) (be (o403 P)) (be (o533 P))))) (bn (o55 P) (bn (o96 P) (bn (o175 P) (be (o319 P)) (be (o451 P))) (bn (o251 P) (be (o387 P)) (be (o517 P)))) (bn (o137 P) (bn (o216 P) (be (o351 P)) (be (o485 P))) (bn (o287 P) (be (o419 P)) (be (o549 P))))))) (bn (o3 P) (bn (o13 P) (bn (o32 P) (bn (o70 P) (bn (o152 P) (bn (o299 P) (be (o563 P)) bz) (be (o431 P))) (bn (o228 P) (be (o365 P)) (be (o497 P)))) (bn (o111 P) (bn (o190 P) (be (o331 P)) (be (o463 P))) (bn (o263 P) (be (o399 P)) (be (o529 P))))) (bn (o51 P) (bn (o92 P) (bn (o171 P) (be (o315 P)) (be (o447 P))) (bn (o247 P) (be (o383 P)) (be (o513 P)))) (bn (o130 P) (bn (o209 P) (be (o347 P)) (be (o479 P))) (bn (o281 P) (be (o415 P)) (be (o545 P)))))) (bn (o21 P) (bn (o40 P) (bn (o81 P) (bn (o160 P) (be (o307 P)) (be (o439 P))) (bn (o239 P) (be (o373 P)) (be (o505 P)))) (bn (o122 P) (bn (o201 P) (be (o339 P)) (be (o471 P))) (bn (o271 P) (be (o407 P)) (be (o537 P))))) (bn (o62 P) (bn (o100 P) (bn (o182 P) (be (o323 P)) (be (o455 P))) (bn (o255 P) (be (o391 P)) (be (o521 P)))) (bn (o141 P) (bn (o220 P) (be (o355 P)) (be (o489 P))) (bn (o291 P) (be (o423 P)) (be (o553 P))))))))))
theorem pc21:Hd.Pc pp env T20 514 848 T21 526 869 64 [tp 47,tp 48] ⟨256,0,261,95⟩ ⟨270,0,293,117⟩:=by
 intro w
 kernel_rfl
noncomputable def Hf (P:Params):Heap:=⟨Array.mk [boot_o_0 P,boot_o_1 P,boot_o_2 P,o557 P,boot_o_4 P,boot_o_5 P,boot_o_6 P,boot_o_7 P,boot_o_8 P,boot_o_9 P,boot_o_10 P,o0 P,o558 P,o2 P,o3 P,o6 P,o7 P,o8 P,o9 P,o10 P,o11 P,o12 P,o13 P,o14 P,o15 P,o16 P,o17 P,o18 P,o19 P,o20 P,o21 P,o237 P,o23 P,o24 P,o25 P,o29 P,o30 P,o31 P,o32 P,o33 P,o34 P,o35 P,o36 P,o37 P,o38 P,o39 P,o40 P,o44 P,o45 P,o46 P,o47 P,o48 P,o49 P,o50 P,o51 P,o52 P,o53 P,o54 P,o55 P,o59 P,o60 P,o61 P,o62 P,o63 P,o64 P,o65 P,o66 P,o67 P,o68 P,o69 P,o70 P,o74 P,o75 P,o76 P,o77 P,o78 P,o79 P,o80 P,o81 P,o82 P,o83 P,o84 P,o85 P,o89 P,o90 P,o91 P,o92 P,o93 P,o94 P,o95 P,o96 P,o97 P,o98 P,o99 P,o100 P,o104 P,o105 P,o106 P,o107 P,o108 P,o109 P,o110 P,o111 P,o112 P,o113 P,o114 P,o115 P,o119 P,o120 P,o121 P,o122 P,o123 P,o124 P,o125 P,o126 P,o127 P,o128 P,o129 P,o130 P,o134 P,o135 P,o136 P,o137 P,o138 P,o139 P,o140 P,o141 P,o142 P,o143 P,o144 P,o145 P,o149 P,o150 P,o151 P,o152 P,o153 P,o154 P,o155 P,o156 P,o157 P,o158 P,o159 P,o160 P,o164 P,o165 P,o166 P,o167 P,o168 P,o169 P,o170 P,o171 P,o172 P,o173 P,o174 P,o175 P,o179 P,o180 P,o181 P,o182 P,o183 P,o184 P,o185 P,o186 P,o187 P,o188 P,o189 P,o190 P,o194 P,o195 P,o196 P,o197 P,o198 P,o199 P,o200 P,o201 P,o202 P,o203 P,o204 P,o205 P,o206 P,o207 P,o208 P,o209 P,o210 P,o211 P,o212 P,o216 P,o217 P,o218 P,o219 P,o220 P,o221 P,o222 P,o223 P,o224 P,o225 P,o226 P,o227 P,o228 P,o229 P,o230 P,o231 P,o232 P,o233 P,o234 P,o238 P,o239 P,o240 P,o241 P,o242 P,o243 P,o244 P,o245 P,o246 P,o247 P,o248 P,o249 P,o250 P,o251 P,o252 P,o253 P,o254 P,o255 P,o256 P,o257 P,o258 P,o259 P,o260 P,o261 P,o262 P,o263 P,o264 P,o265 P,o266 P,o267 P,o268 P,o269 P,o270 P,o271 P,o272 P,o273 P,o274 P,o275 P,o278 P,o279 P,o280 P,o281 P,o282 P,o283 P,o284 P,o287 P,o288 P,o289 P,o290 P,o291 P,o292 P,o293 P,o294 P,o295 P,o296 P,o297 P,o298 P,o299 P,o300 P,o301 P,o302 P,o303 P,o304 P,o305 P,o306 P,o307 P,o308 P,o309 P,o310 P,o311 P,o312 P,o313 P,o314 P,o315 P,o316 P,o317 P,o318 P,o319 P,o320 P,o321 P,o322 P,o323 P,o324 P,o325 P,o326 P,o327 P,o328 P,o329 P,o330 P,o331 P,o332 P,o333 P,o334 P,o335 P,o336 P,o337 P,o338 P,o339 P,o340 P,o341 P,o342 P,o343 P,o344 P,o345 P,o346 P,o347 P,o348 P,o349 P,o350 P,o351 P,o352 P,o353 P,o354 P,o355 P,o356 P,o357 P,o360 P,o361 P,o362 P,o363 P,o364 P,o365 P,o366 P,o367 P,o368 P,o369 P,o370 P,o371 P,o372 P,o373 P,o374 P,o375 P,o376 P,o377 P,o378 P,o379 P,o380 P,o383 P,o384 P,o385 P,o386 P,o387 P,o388 P,o389 P,o390 P,o391 P,o392 P,o393 P,o394 P,o395 P,o396 P,o397 P,o398 P,o399 P,o400 P,o401 P,o402 P,o403 P,o404 P,o405 P,o406 P,o407 P,o408 P,o409 P,o410 P,o411 P,o412 P,o413 P,o414 P,o415 P,o416 P,o417 P,o418 P,o419 P,o420 P,o421 P,o422 P,o423 P,o424 P,o425 P,o426 P,o427 P,o428 P,o429 P,o430 P,o431 P,o432 P,o433 P,o434 P,o435 P,o436 P,o437 P,o438 P,o439 P,o440 P,o441 P,o442 P,o443 P,o444 P,o445 P,o446 P,o447 P,o448 P,o449 P,o450 P,o451 P,o452 P,o453 P,o454 P,o455 P,o456 P,o457 P,o458 P,o459 P,o460 P,o461 P,o462 P,o463 P,o464 P,o465 P,o466 P,o467 P,o468 P,o469 P,o470 P,o471 P,o472 P,o473 P,o474 P,o475 P,o476 P,o477 P,o478 P,o479 P,o482 P,o483 P,o484 P,o485 P,o486 P,o487 P,o488 P,o489 P,o490 P,o491 P,o492 P,o493 P,o494 P,o495 P,o496 P,o497 P,o498 P,o499 P,o500 P,o501 P,o502 P,o503 P,o504 P,o505 P,o506 P,o507 P,o508 P,o509 P,o510 P,o511 P,o512 P,o513 P,o514 P,o515 P,o516 P,o517 P,o518 P,o519 P,o520 P,o521 P,o522 P,o523 P,o524 P,o525 P,o526 P,o527 P,o528 P,o529 P,o530 P,o531 P,o532 P,o533 P,o534 P,o535 P,o536 P,o537 P,o538 P,o539 P,o540 P,o541 P,o542 P,o543 P,o544 P,o545 P,o546 P,o547 P,o548 P,o549 P,o550 P,o551 P,o552 P,o553 P,o554 P,o555 P,o556 P,o559 P,o560 P,o561 P,o562 P,o563 P,o564 P,o565 P,o566 P,o567 P,o568 P,o569 P,o570 P],Hd.lf⟩
theorem fin:Hd.Fi pp env T21 526 869 Hf 869 2 ⟨270,0,293,117⟩:=by
 intro w
 kernel_rfl
noncomputable def vw:Program:={ pp with main:={ pp.main with body:=[tp 0,tp 2,tp 3,tp 4,tp 5,tp 6,tp 7,tp 8,tp 9,tp 10,tp 11,tp 12,tp 13,tp 14,tp 15,tp 16,tp 18,tp 19,tp 20,tp 21,tp 22,tp 23,tp 24,tp 25,tp 26,tp 28,tp 29,tp 30,tp 31,tp 32,tp 34,tp 35,tp 36,tp 37,tp 38,tp 39,tp 40,tp 41,tp 42,tp 43,tp 44,tp 45,tp 46,tp 47,tp 48] } }
noncomputable def kk (P:Params):Frag:=
 (nat_lit 2,boot_o_2 P)::(nat_lit 3,o557 P)::(nat_lit 15,o6 P)::(nat_lit 17,o8 P)::(nat_lit 18,o9 P)::(nat_lit 20,o11 P)::(nat_lit 21,o12 P)::(nat_lit 22,o13 P)::(nat_lit 29,o20 P)::(nat_lit 30,o21 P)::(nat_lit 31,o237 P)::(nat_lit 32,o23 P)::(nat_lit 35,o29 P)::(nat_lit 42,o36 P)::(nat_lit 43,o37 P)::(nat_lit 44,o38 P)::(nat_lit 47,o44 P)::(nat_lit 54,o51 P)::(nat_lit 55,o52 P)::(nat_lit 56,o53 P)::(nat_lit 59,o59 P)::(nat_lit 66,o66 P)::(nat_lit 67,o67 P)::(nat_lit 68,o68 P)::(nat_lit 71,o74 P)::(nat_lit 78,o81 P)::(nat_lit 79,o82 P)::(nat_lit 80,o83 P)::(nat_lit 83,o89 P)::(nat_lit 90,o96 P)::(nat_lit 91,o97 P)::(nat_lit 92,o98 P)::(nat_lit 95,o104 P)::(nat_lit 102,o111 P)::(nat_lit 103,o112 P)::(nat_lit 104,o113 P)::(nat_lit 107,o119 P)::(nat_lit 114,o126 P)::(nat_lit 115,o127 P)::(nat_lit 116,o128 P)::(nat_lit 119,o134 P)::(nat_lit 126,o141 P)::(nat_lit 127,o142 P)::(nat_lit 128,o143 P)::(nat_lit 131,o149 P)::(nat_lit 138,o156 P)::(nat_lit 139,o157 P)::(nat_lit 140,o158 P)::(nat_lit 143,o164 P)::(nat_lit 150,o171 P)::(nat_lit 151,o172 P)::(nat_lit 152,o173 P)::(nat_lit 155,o179 P)::(nat_lit 162,o186 P)::(nat_lit 163,o187 P)::(nat_lit 164,o188 P)::(nat_lit 167,o194 P)::(nat_lit 174,o201 P)::(nat_lit 176,o203 P)::(nat_lit 177,o204 P)::(nat_lit 179,o206 P)::(nat_lit 180,o207 P)::(nat_lit 181,o208 P)::(nat_lit 182,o209 P)::(nat_lit 183,o210 P)::(nat_lit 186,o216 P)::(nat_lit 193,o223 P)::(nat_lit 195,o225 P)::(nat_lit 196,o226 P)::(nat_lit 198,o228 P)::(nat_lit 199,o229 P)::(nat_lit 200,o230 P)::(nat_lit 201,o231 P)::(nat_lit 202,o232 P)::(nat_lit 205,o238 P)::(nat_lit 212,o245 P)::(nat_lit 214,o247 P)::(nat_lit 215,o248 P)::(nat_lit 217,o250 P)::(nat_lit 218,o251 P)::(nat_lit 219,o252 P)::(nat_lit 220,o253 P)::(nat_lit 221,o254 P)::(nat_lit 224,o257 P)::(nat_lit 227,o260 P)::(nat_lit 228,o261 P)::(nat_lit 229,o262 P)::(nat_lit 231,o264 P)::(nat_lit 232,o265 P)::(nat_lit 234,o267 P)::(nat_lit 235,o268 P)::(nat_lit 236,o269 P)::(nat_lit 238,o271 P)::(nat_lit 239,o272 P)::(nat_lit 241,o274 P)::(nat_lit 242,o275 P)::(nat_lit 243,o278 P)::(nat_lit 245,o280 P)::(nat_lit 246,o281 P)::(nat_lit 248,o283 P)::(nat_lit 249,o284 P)::(nat_lit 257,o294 P)::(nat_lit 258,o295 P)::(nat_lit 260,o297 P)::(nat_lit 261,o298 P)::(nat_lit 263,o300 P)::(nat_lit 264,o301 P)::(nat_lit 265,o302 P)::(nat_lit 267,o304 P)::(nat_lit 268,o305 P)::(nat_lit 270,o307 P)::(nat_lit 271,o308 P)::(nat_lit 272,o309 P)::(nat_lit 274,o311 P)::(nat_lit 275,o312 P)::(nat_lit 277,o314 P)::(nat_lit 278,o315 P)::(nat_lit 279,o316 P)::(nat_lit 281,o318 P)::(nat_lit 282,o319 P)::(nat_lit 284,o321 P)::(nat_lit 285,o322 P)::(nat_lit 286,o323 P)::(nat_lit 288,o325 P)::(nat_lit 289,o326 P)::(nat_lit 291,o328 P)::(nat_lit 292,o329 P)::(nat_lit 293,o330 P)::(nat_lit 295,o332 P)::(nat_lit 296,o333 P)::(nat_lit 298,o335 P)::(nat_lit 299,o336 P)::(nat_lit 300,o337 P)::(nat_lit 302,o339 P)::(nat_lit 303,o340 P)::(nat_lit 305,o342 P)::(nat_lit 306,o343 P)::(nat_lit 307,o344 P)::(nat_lit 309,o346 P)::(nat_lit 310,o347 P)::(nat_lit 312,o349 P)::(nat_lit 313,o350 P)::(nat_lit 314,o351 P)::(nat_lit 315,o352 P)::(nat_lit 316,o353 P)::(nat_lit 317,o354 P)::(nat_lit 318,o355 P)::(nat_lit 321,o360 P)::(nat_lit 323,o362 P)::(nat_lit 324,o363 P)::(nat_lit 326,o365 P)::(nat_lit 327,o366 P)::(nat_lit 328,o367 P)::(nat_lit 330,o369 P)::(nat_lit 331,o370 P)::(nat_lit 333,o372 P)::(nat_lit 334,o373 P)::(nat_lit 335,o374 P)::(nat_lit 337,o376 P)::(nat_lit 338,o377 P)::(nat_lit 340,o379 P)::(nat_lit 341,o380 P)::(nat_lit 349,o390 P)::(nat_lit 350,o391 P)::(nat_lit 353,o394 P)::(nat_lit 354,o395 P)::(nat_lit 355,o396 P)::(nat_lit 357,o398 P)::(nat_lit 358,o399 P)::(nat_lit 360,o401 P)::(nat_lit 361,o402 P)::(nat_lit 362,o403 P)::(nat_lit 364,o405 P)::(nat_lit 365,o406 P)::(nat_lit 367,o408 P)::(nat_lit 368,o409 P)::(nat_lit 369,o410 P)::(nat_lit 371,o412 P)::(nat_lit 372,o413 P)::(nat_lit 374,o415 P)::(nat_lit 375,o416 P)::(nat_lit 376,o417 P)::(nat_lit 378,o419 P)::(nat_lit 379,o420 P)::(nat_lit 381,o422 P)::(nat_lit 382,o423 P)::(nat_lit 383,o424 P)::(nat_lit 385,o426 P)::(nat_lit 386,o427 P)::(nat_lit 388,o429 P)::(nat_lit 389,o430 P)::(nat_lit 390,o431 P)::(nat_lit 392,o433 P)::(nat_lit 393,o434 P)::(nat_lit 395,o436 P)::(nat_lit 396,o437 P)::(nat_lit 397,o438 P)::(nat_lit 399,o440 P)::(nat_lit 400,o441 P)::(nat_lit 402,o443 P)::(nat_lit 403,o444 P)::(nat_lit 404,o445 P)::(nat_lit 406,o447 P)::(nat_lit 407,o448 P)::(nat_lit 409,o450 P)::(nat_lit 410,o451 P)::(nat_lit 411,o452 P)::(nat_lit 413,o454 P)::(nat_lit 414,o455 P)::(nat_lit 416,o457 P)::(nat_lit 417,o458 P)::(nat_lit 418,o459 P)::(nat_lit 420,o461 P)::(nat_lit 421,o462 P)::(nat_lit 423,o464 P)::(nat_lit 424,o465 P)::(nat_lit 425,o466 P)::(nat_lit 427,o468 P)::(nat_lit 428,o469 P)::(nat_lit 430,o471 P)::(nat_lit 431,o472 P)::(nat_lit 432,o473 P)::(nat_lit 433,o474 P)::(nat_lit 434,o475 P)::(nat_lit 435,o476 P)::(nat_lit 436,o477 P)::(nat_lit 439,o482 P)::(nat_lit 441,o484 P)::(nat_lit 442,o485 P)::(nat_lit 444,o487 P)::(nat_lit 445,o488 P)::(nat_lit 446,o489 P)::(nat_lit 448,o491 P)::(nat_lit 449,o492 P)::(nat_lit 451,o494 P)::(nat_lit 452,o495 P)::(nat_lit 453,o496 P)::(nat_lit 456,o499 P)::(nat_lit 457,o500 P)::(nat_lit 458,o501 P)::(nat_lit 461,o504 P)::(nat_lit 462,o505 P)::(nat_lit 463,o506 P)::(nat_lit 466,o509 P)::(nat_lit 467,o510 P)::(nat_lit 468,o511 P)::(nat_lit 471,o514 P)::(nat_lit 472,o515 P)::(nat_lit 473,o516 P)::(nat_lit 476,o519 P)::(nat_lit 477,o520 P)::(nat_lit 483,o526 P)::(nat_lit 485,o528 P)::(nat_lit 486,o529 P)::(nat_lit 488,o531 P)::(nat_lit 489,o532 P)::(nat_lit 490,o533 P)::(nat_lit 492,o535 P)::(nat_lit 493,o536 P)::(nat_lit 495,o538 P)::(nat_lit 496,o539 P)::(nat_lit 497,o540 P)::(nat_lit 500,o543 P)::(nat_lit 501,o544 P)::(nat_lit 502,o545 P)::(nat_lit 504,o547 P)::(nat_lit 505,o548 P)::(nat_lit 507,o550 P)::(nat_lit 508,o551 P)::(nat_lit 509,o552 P)::(nat_lit 512,o555 P)::(nat_lit 513,o556 P)::(nat_lit 514,o559 P)::(nat_lit 516,o561 P)::(nat_lit 517,o562 P)::(nat_lit 519,o564 P)::(nat_lit 520,o565 P)::(nat_lit 521,o566 P)::(nat_lit 524,o569 P)::(nat_lit 525,o570 P)::[]
noncomputable def kl:List Addr:=[2,3,15,17,18,20,21,22,29,30,31,32,35,42,43,44,47,54,55,56,59,66,67,68,71,78,79,80,83,90,91,92,95,102,103,104,107,114,115,116,119,126,127,128,131,138,139,140,143,150,151,152,155,162,163,164,167,174,176,177,179,180,181,182,183,186,193,195,196,198,199,200,201,202,205,212,214,215,217,218,219,220,221,224,227,228,229,231,232,234,235,236,238,239,241,242,243,245,246,248,249,257,258,260,261,263,264,265,267,268,270,271,272,274,275,277,278,279,281,282,284,285,286,288,289,291,292,293,295,296,298,299,300,302,303,305,306,307,309,310,312,313,314,315,316,317,318,321,323,324,326,327,328,330,331,333,334,335,337,338,340,341,349,350,353,354,355,357,358,360,361,362,364,365,367,368,369,371,372,374,375,376,378,379,381,382,383,385,386,388,389,390,392,393,395,396,397,399,400,402,403,404,406,407,409,410,411,413,414,416,417,418,420,421,423,424,425,427,428,430,431,432,433,434,435,436,439,441,442,444,445,446,448,449,451,452,453,456,457,458,461,462,463,466,467,468,471,472,473,476,477,483,485,486,488,489,490,492,493,495,496,497,500,501,502,504,505,507,508,509,512,513,514,516,517,519,520,521,524,525]
theorem kl_eq:∀ P,kl=(kk P).map (·.1):=by
 intro P
 kernel_rfl
noncomputable abbrev hk:Hook:=kmHook kk kl kl_eq [515]
noncomputable def xt (s:Shared):Bool:=xlAt vw [] s&&recOk (RowW.records (OpenRow.toRowW (OpenLaw.row PySem.Challenge.rw_roomward_k14_machines_told))) s
theorem looks:∀ w:World,(fun os=>((staticsOk (importedModules pp.main.body) (boot_heap w.params) (Hf w.params)&&namesBound pp (Hf w.params)&&gensDone (Hd.Sh Hf 869 w os)&&laidKept (boot_heap w.params) (Hf w.params)),
  Hd.fSeen vw [] (importedModules pp.main.body) xt true (Hd.Sh Hf 869 w os),hk.obs (Hd.Sh Hf 869 w os)))=fun _=>(true,openGood vw [],hk.val w):=by
 intro w
 kernel_rfl
theorem body_eq:[tp 0,tp 1,tp 2]++([tp 3]++([tp 4]++([tp 5]++([tp 6]++([tp 7]++([tp 8]++([tp 9]++([tp 10]++([tp 11]++([tp 12]++([tp 13]++([tp 14]++([tp 15]++([tp 16,tp 17,tp 18,tp 19,tp 20,tp 21,tp 22,tp 23,tp 24]++([tp 25]++([tp 26]++([tp 27,tp 28,tp 29,tp 30,tp 31]++([tp 32]++([tp 33,tp 34,tp 35,tp 36,tp 37,tp 38,tp 39,tp 40,tp 41,tp 42,tp 43,tp 44,tp 45,tp 46]++([tp 47,tp 48]++[]))))))))))))))))))))=behindTheImports pp:=by
 kernel_rfl
theorem left:LeftO pp vw [] xt hk.obs hk.val 10214 true:=
 Hd.left_of (by kernel_rfl) (fun s=>by kernel_rfl) (by decide) (by decide) (Hd.top_run pre blk body_eq (pc1.run (pc2.run (pc3.run (pc4.run (pc5.run (pc6.run (pc7.run (pc8.run (pc9.run (pc10.run (pc11.run (pc12.run (pc13.run (pc14.run (pc15.run (pc16.run (pc17.run (pc18.run (pc19.run (pc20.run (pc21.run fin.run)))))))))))))))))))))) looks
end
end K14H
open PySem PySem.W PyProof.Rows
set_option maxRecDepth 100000 in
set_option maxHeartbeats 0 in
theorem PySem.Challenge.cw_roomward_k14_machines_told_holds : PySem.Challenge.rw_roomward_k14_machines_told.Holds := by
 w_on; o_law
 refine holds_open (q:=K14H.vw) (loose:=[]) (Xt:=K14H.xt) (XP:=XL K14H.vw [])
  (Yf:=Hook.obs (kmHook K14H.kk K14H.kl K14H.kl_eq [515])) (Ya:=Hook.val (kmHook K14H.kk K14H.kl K14H.kl_eq [515])) (YP:=Hook.says (kmHook K14H.kk K14H.kl K14H.kl_eq [515]))
  (N:=10214) K14H.left (Hook.of (kmHook K14H.kk K14H.kl K14H.kl_eq [515])) (Hook.keeps (kmHook K14H.kk K14H.kl K14H.kl_eq [515])) ?x XL.keeps (by rfl) (by rfl) (by rfl) ?f ?wr ?k1 ?ok ?b ?hw ?hc
 case x=>exact fun s e=>xl_of s (Bool.and_eq_true_iff.mp e).1
 case f=>exact fun s e=>recFacts_of (Bool.and_eq_true_iff.mp e).2
 case wr=>rfl
 case k1=>first
  | assumption
  | decide +kernel
 case ok=>decide +kernel
 case b=>exact ⟨rfl,rfl,rfl,rfl,rfl,by decide +kernel⟩
 case hw=>w_witness2
 k_fill
 refine' K14.walk (c0:=519) (l:=PySem.Challenge.rw_roomward_k14_machines_told) 515 rfl rfl (fun w h Y=>⟨PySem.W.km_in_of Y,PySem.W.km_tabs_of Y⟩) ?F ?hK ?hN
 case F=>
  intro w mg fa h KX G hmg
  refine' K14.all_mk KX G hmg ?a1 ?l1 ?c1 ?k1 ?a2 ?l2 ?c2 ?k2 ?a3 ?l3 ?c3 ?k3 ?a4 ?l4 ?c4 ?k4 ?a5 ?l5 ?c5 ?k5 ?a6 ?l6 ?c6 ?k6 ?a7 ?l7 ?c7 ?k7 ?a8 ?l8 ?c8 ?k8 ?a9 ?l9 ?c9 ?k9 ?a10 ?l10 ?c10 ?k10 ?a11 ?l11 ?c11 ?k11 ?a12 ?l12 ?c12 ?k12 ?a13 ?l13 ?c13 ?k13 ?a14 ?l14 ?c14 ?k14 ?a15 ?l15 ?c15 ?k15 ?a16 ?l16 ?c16 ?k16 ?a17 ?l17 ?c17 ?k17 ?a18 ?l18 ?c18 ?k18 ?a19 ?l19 ?c19 ?k19 ?a20 ?l20 ?c20 ?k20 ?a21 ?l21 ?c21 ?k21 ?aC ?qm0 ?lm0 ?cm0 ?km0 ?nm0 ?qm1 ?lm1 ?cm1 ?km1 ?nm1 ?aM ?qM0 ?lM0 ?cM0 ?kM0 ?nM0 ?qM1 ?lM1 ?cM1 ?kM1 ?nM1 ?qM2 ?lM2 ?cM2 ?kM2 ?nM2 ?qM3 ?lM3 ?cM3 ?kM3 ?nM3 ?qM4 ?lM4 ?cM4 ?kM4 ?nM4 ?qM5 ?lM5 ?cM5 ?kM5 ?nM5 ?qM6 ?lM6 ?cM6 ?kM6 ?nM6 ?qM7 ?lM7 ?cM7 ?kM7 ?nM7 ?qM8 ?lM8 ?cM8 ?kM8 ?nM8 ?qMI ?lMI ?cMI ?kMI ?nMI ?lE ?mkM ?kpM ?pgM ?hdM ?poM ?saM ?nM0_ ?nM1_ ?nM2_ ?nM3_ ?nM4_ ?qI ?lI ?cI ?kI ?nI ?lT ?mkC ?kpC ?pgC ?hdC ?poC ?saC ?nwC ?nfC ?e0 ?e1 ?e2 ?e3 ?e4 ?e5 ?e6 ?e7 ?e8 ?e9 ?e10 ?e11 ?e12 ?e13 ?eW ?xa0 ?xa1 ?xa2 ?xa3 ?xa4 ?xb1 ?xc1 ?xd1 ?xe1 ?xf1 ?xb2 ?xc2 ?xd2 ?xe2 ?xf2 ?kt ?kv ?kw ?ncE ?ncN ?ncM ?hhd ?cst0 ?cst1 ?cst2 ?cst3 ?cst4 ?z0 ?z1 ?z2 ?z3 ?z4 ?z5 ?z6 ?z7 ?z8 ?z9 ?z10 ?z11
  (case a1=>k_is)
  (case l1=>k_is)
  (case c1=>k_is)
  (case k1=>k_is)
  (case a2=>k_is)
  (case l2=>k_is)
  (case c2=>k_is)
  (case k2=>k_is)
  (case a3=>k_is)
  (case l3=>k_is)
  (case c3=>k_is)
  (case k3=>k_is)
  (case a4=>k_is)
  (case l4=>k_is)
  (case c4=>k_is)
  (case k4=>k_is)
  (case a5=>k_is)
  (case l5=>k_is)
  (case c5=>k_is)
  (case k5=>k_is)
  (case a6=>k_is)
  (case l6=>k_is)
  (case c6=>k_is)
  (case k6=>k_is)
  (case a7=>k_is)
  (case l7=>k_is)
  (case c7=>k_is)
  (case k7=>k_is)
  (case a8=>k_is)
  (case l8=>k_is)
  (case c8=>k_is)
  (case k8=>k_is)
  (case a9=>k_is)
  (case l9=>k_is)
  (case c9=>k_is)
  (case k9=>k_is)
  (case a10=>k_is)
  (case l10=>k_is)
  (case c10=>k_is)
  (case k10=>k_is)
  (case a11=>k_is)
  (case l11=>k_is)
  (case c11=>k_is)
  (case k11=>k_is)
  (case a12=>k_is)
  (case l12=>k_is)
  (case c12=>k_is)
  (case k12=>k_is)
  (case a13=>k_is)
  (case l13=>k_is)
  (case c13=>k_is)
  (case k13=>k_is)
  (case a14=>k_is)
  (case l14=>k_is)
  (case c14=>k_is)
  (case k14=>k_is)
  (case a15=>k_is)
  (case l15=>k_is)
  (case c15=>k_is)
  (case k15=>k_is)
  (case a16=>k_is)
  (case l16=>k_is)
  (case c16=>k_is)
  (case k16=>k_is)
  (case a17=>k_is)
  (case l17=>k_is)
  (case c17=>k_is)
  (case k17=>k_is)
  (case a18=>k_is)
  (case l18=>k_is)
  (case c18=>k_is)
  (case k18=>k_is)
  (case a19=>k_is)
  (case l19=>k_is)
  (case c19=>k_is)
  (case k19=>k_is)
  (case a20=>k_is)
  (case l20=>k_is)
  (case c20=>k_is)
  (case k20=>k_is)
  (case a21=>k_is)
  (case l21=>k_is)
  (case c21=>k_is)
  (case k21=>k_is)
  (case aC=>k_is)
  (case qm0=>k_is)
  (case lm0=>k_is)
  (case cm0=>k_is)
  (case km0=>k_is)
  (case nm0=>k_is)
  (case qm1=>k_is)
  (case lm1=>k_is)
  (case cm1=>k_is)
  (case km1=>k_is)
  (case nm1=>k_is)
  (case aM=>k_is)
  (case qM0=>k_is)
  (case lM0=>k_is)
  (case cM0=>k_is)
  (case kM0=>k_is)
  (case nM0=>k_is)
  (case qM1=>k_is)
  (case lM1=>k_is)
  (case cM1=>k_is)
  (case kM1=>k_is)
  (case nM1=>k_is)
  (case qM2=>k_is)
  (case lM2=>k_is)
  (case cM2=>k_is)
  (case kM2=>k_is)
  (case nM2=>k_is)
  (case qM3=>k_is)
  (case lM3=>k_is)
  (case cM3=>k_is)
  (case kM3=>k_is)
  (case nM3=>k_is)
  (case qM4=>k_is)
  (case lM4=>k_is)
  (case cM4=>k_is)
  (case kM4=>k_is)
  (case nM4=>k_is)
  (case qM5=>k_is)
  (case lM5=>k_is)
  (case cM5=>k_is)
  (case kM5=>k_is)
  (case nM5=>k_is)
  (case qM6=>k_is)
  (case lM6=>k_is)
  (case cM6=>k_is)
  (case kM6=>k_is)
  (case nM6=>k_is)
  (case qM7=>k_is)
  (case lM7=>k_is)
  (case cM7=>k_is)
  (case kM7=>k_is)
  (case nM7=>k_is)
  (case qM8=>k_is)
  (case lM8=>k_is)
  (case cM8=>k_is)
  (case kM8=>k_is)
  (case nM8=>k_is)
  (case qMI=>k_is)
  (case lMI=>k_is)
  (case cMI=>k_is)
  (case kMI=>k_is)
  (case nMI=>k_is)
  (case lE=>k_is)
  (case mkM=>k_is)
  (case kpM=>k_is)
  (case pgM=>k_is)
  (case hdM=>k_is)
  (case poM=>k_is)
  (case saM=>k_is)
  (case nM0_=>k_is)
  (case nM1_=>k_is)
  (case nM2_=>k_is)
  (case nM3_=>k_is)
  (case nM4_=>k_is)
  (case qI=>k_is)
  (case lI=>k_is)
  (case cI=>k_is)
  (case kI=>k_is)
  (case nI=>k_is)
  (case lT=>k_is)
  (case mkC=>k_is)
  (case kpC=>k_is)
  (case pgC=>k_is)
  (case hdC=>k_is)
  (case poC=>k_is)
  (case saC=>k_is)
  (case nwC=>k_is)
  (case nfC=>k_is)
  (case e0=>k_is)
  (case e1=>k_is)
  (case e2=>k_is)
  (case e3=>k_is)
  (case e4=>k_is)
  (case e5=>k_is)
  (case e6=>k_is)
  (case e7=>k_is)
  (case e8=>k_is)
  (case e9=>k_is)
  (case e10=>k_is)
  (case e11=>k_is)
  (case e12=>k_is)
  (case e13=>k_is)
  (case eW=>k_is)
  (case xa0=>kernel_rfl)
  (case xa1=>kernel_rfl)
  (case xa2=>kernel_rfl)
  (case xa3=>kernel_rfl)
  (case xa4=>kernel_rfl)
  (case xb1=>k_is)
  (case xc1=>k_is)
  (case xd1=>k_is)
  (case xe1=>k_is)
  (case xf1=>k_is)
  (case xb2=>k_is)
  (case xc2=>k_is)
  (case xd2=>k_is)
  (case xe2=>k_is)
  (case xf2=>k_is)
  (case kt=>kernel_rfl)
  (case kv=>kernel_rfl)
  (case kw=>kernel_rfl)
  (case ncE=>k_is)
  (case ncN=>k_is)
  (case ncM=>k_is)
  (case hhd=>kernel_rfl)
  (case cst0=>k_is)
  (case cst1=>k_is)
  (case cst2=>k_is)
  (case cst3=>k_is)
  (case cst4=>k_is)
  (case z0=>k_is)
  (case z1=>k_is)
  (case z2=>k_is)
  (case z3=>k_is)
  (case z4=>k_is)
  (case z5=>k_is)
  (case z6=>k_is)
  (case z7=>k_is)
  (case z8=>k_is)
  (case z9=>k_is)
  (case z10=>k_is)
  (case z11=>k_is)
 case hK=>intro w; kernel_rfl
 case hN=>intro w; kernel_rfl

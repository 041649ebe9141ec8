import PyProof.Rows.All
import Wide.All
import OpenK.AllK
import Wide.FinOn
import Lean
import PyProof.EqAt
import PyProof.EqKinds
import PyProof.TupleCall
import PyProof.NeKinds
import PyProof.Rows.SetFrom
import PyProof.SetRoads
import PyProof.FactsAll.dict_keyiterator
import PyProof.DictIter
import PyProof.DictWalks
import KE.KDictSum
import PyProof.InstEq
import KE.KFmtOwn
import PyProof.ZipIter
import PyProof.Rows.ZipGen
import KE.KRevSl
import PyProof.SumWalk
import PySem.Challenge.RW_roomward_k34_rules_refused
set_option Elab.async false
set_option linter.all false
set_option maxRecDepth 100000
set_option maxHeartbeats 4000000
noncomputable section
abbrev xPn:=List (PySem.Addr×PySem.Obj)
abbrev xVP:=PySem.Value->PySem.Shared->Prop
abbrev xOP:=Option PySem.Value->PySem.Shared->Prop
abbrev xSO:=PySem.Str->Option PySem.Value
abbrev xLL:=List (List PySem.Str)
abbrev xAO:=Array (Option PySem.Value)
namespace L2
open PySem PySem.Spec PySem.Calls PyProof.Rows PySem.W
abbrev xAa:=@List.length_map
abbrev xAb:=@PySem.W.Frag
abbrev xAc:=@wpAny_bind
abbrev xAd:=@List.getElem?_eq_some_iff
abbrev xAe:=@PySem.W.mg_of
abbrev xAf:=@Heap.get?_push_of_some
abbrev xAg:=@List.mem_singleton
abbrev xAh:=@Nat.le_refl
abbrev xAi:=@List.getElem?_eq_getElem
abbrev xAj:=@List.getElem?_map
abbrev xAk:=@List.mem_cons
abbrev xAl:=@wpAny_pure
abbrev xAm:=@decide_eq_true
abbrev xAn:=@List.length_append
abbrev xAo:=@List.mem_map
abbrev xAp:=@Heap.lt_size
abbrev xAq:=@Heap.get?_push_size
abbrev xAr:=@Bool.false_ne_true
abbrev xAs:=@Nat.le_trans
abbrev xAt:=@of_decide_eq_true
abbrev xAu:=@absurd
abbrev xAv:=@List.size_toArray
abbrev xAw:=@if_neg
abbrev xAx:=@List.map_append
abbrev xAy:=@Nat.lt_of_lt_of_le
abbrev xAz:=@if_pos
abbrev xBa:=@List.take_length
abbrev xBb:=@List.length_take
abbrev xBc:=@decide_eq_false
abbrev xBd:=@Nat.ne_of_lt
abbrev xBe:=@List.mem_of_getElem?
abbrev xBf:=@List.length_cons
abbrev xBg:=@Or.inl
abbrev xBh:=@Bool.and_eq_true
abbrev xBi:=@List.mem_cons_of_mem
abbrev xBj:=@Option.some.inj
abbrev xBk:=@List.append_nil
abbrev xBl:=@List.mem_flatMap
abbrev xBm:=@List.mem_cons_self
abbrev xBn:=@List.all_eq_true
abbrev xBo:=@List.take_succ
abbrev xBp:=@List.mem_append_right
abbrev xBq:=@PySem.F.plainAttrs_list
abbrev xBr:=@PySem.W.mg_none_of
abbrev xBs:=@PySem.Spec.ltCps
abbrev xBt:=@PyProof.Rows.sortedS
abbrev xBu:=@Nat.zero_le
abbrev xBv:=@List.getD_eq_getElem?_getD
abbrev xBw:=@List.getElem?_append_left
abbrev xBx:=@List.map_cons
abbrev xBy:=@List.mem_append
abbrev xBz:=@wpAny_Call_Name_kw
abbrev xCa:=@List.mem_range
abbrev xCb:=@List.getElem?_append_right
abbrev xCc:=@wpAny_newObj_type
abbrev xCd:=@List.mem_filter
abbrev xCe:=@List.getElem?_eq_none_iff
abbrev xCf:=@wpAny_truthy_bool
abbrev xCg:=@PySem.W.kia_one
abbrev xCh:=@PySem.W.callWith_K
abbrev xCi:=@List.nodup_cons
abbrev xCj:=@wpAny_mono
abbrev xCk:=@Bool.and_eq_true_iff
abbrev xCl:=@List.getElem_mem
abbrev xCm:=@wpAny_field
abbrev xCn:=@beq_eq_false_iff_ne
abbrev xCo:=@List.length_range
abbrev xCp:=@Bool.eq_false_iff
abbrev xCq:=@Array.length_toList
abbrev xCr:=@Option.isSome_iff_exists
abbrev xCs:=@Nat.lt_of_le_of_lt
abbrev xCu:=@wpAny_seqItems
abbrev xCv:=@Int.toNat_natCast
abbrev xCw:=@List.find?_cons
abbrev xCx:=@PySem.F.plain_max_loop
abbrev xCy:=@List.take_of_length_le
abbrev xCz:=@wpAny_call_entry
abbrev xDa:=@List.mem_filterMap
abbrev xDb:=@List.map_map
abbrev xDc:=@List.length_filter_le
abbrev xDd:=@List.drop_eq_getElem_cons
abbrev xDe:=@PySem.F.slot_tuple_iterator_next
abbrev xDf:=@List.mem_append_left
abbrev xDg:=@PySem.F.type_list_append
abbrev xDh:=@PySem.F.slot_list_append
abbrev xDi:=@Nat.lt_irrefl
abbrev xDj:=@List.any_eq_true
abbrev xDk:=@Heap.size_push
abbrev xDl:=@wpAny_setField_rec
abbrev xDm:=@Calls.spliced_cons
abbrev xDn:=@wpAny_passesOwn
abbrev xDo:=@PySem.W.methodCall_KW
abbrev xDp:=@PyProof.Rows.callWith_type1
abbrev xDq:=@List.length_replicate
abbrev xDr:=@Bool.eq_iff_iff
abbrev xDs:=@Array.getElem?_toList
abbrev xDt:=@List.pairwise_map
abbrev xDu:=@List.mem_iff_getElem
abbrev xDv:=@Nat.le_add_right
abbrev xDw:=@List.replicate_succ
abbrev xDx:=@codeAny_mono
abbrev xDy:=@beq_iff_eq
abbrev xDz:=@PySem.F.type_list_extend
abbrev xEa:=@PySem.F.slot_list_extend
abbrev xEb:=@List.length_nil
abbrev xEc:=@List.any_cons
abbrev xEd:=@Heap.get?_update_other
abbrev xEe:=@List.getElem?_inj
abbrev xEf:=@PySem.F.slot_zip_next
abbrev xEg:=@Nat.le_of_lt
abbrev xEh:=@Heap.get?_update_self
abbrev xEi:=@wpAny_typeNameOfWhole_keyiter
abbrev xEj:=@List.lookup_cons
abbrev xEk:=@List.length_drop
abbrev xEl:=@wpAny_holding
abbrev xEm:=@wpAny_letGo
abbrev xEn:=@wpAny_execs_nil
abbrev xEo:=@PySem.W.hideAll_get
abbrev xEp:=@List.range_succ
abbrev xEq:=@List.of_mem_zip
abbrev xEr:=@List.idxOf_lt_length_of_mem
abbrev xEs:=@List.foldl_cons
abbrev xEt:=@List.filterMap_cons
abbrev xEu:=@Heap.SameBut.update
abbrev xEv:=@wpAny_newFunctionEnv_cells
abbrev xEw:=@decide_eq_true_iff
abbrev xEx:=@Nat.sub_self
abbrev xEy:=@List.mem_of_find?_eq_some
abbrev xEz:=@Bool.false_and
abbrev xFa:=@wpAny_typeNameOf_keyiter
abbrev xFb:=@wpAny_pyIter_list
abbrev xFc:=@wpAny_call
abbrev xFd:=@List.nodup_append
abbrev xFe:=@List.length_erase_of_mem
abbrev xFf:=@List.flatten_cons
abbrev xFg:=@List.Pairwise.nil
abbrev xFh:=@List.Pairwise.imp_of_mem
abbrev xFi:=@Nat.le_succ
abbrev xFj:=@wpAny_execs_cons
abbrev xFk:=@Nat.lt_succ_self
abbrev xFl:=@List.filter_cons
abbrev xFm:=@PySem.W.cellsFrom_some
abbrev xFn:=@Option.map_eq_some_iff
abbrev xFo:=@List.getElem?_set_self
abbrev xFp:=@codeAny_call_function
abbrev xFq:=@PySem.F.slot_dict_get
abbrev xFr:=@Option.map_some
abbrev xFs:=@Nat.ne_of_gt
abbrev xFt:=@Nat.min_eq_left
abbrev xFu:=@List.map_nil
abbrev xFv:=@List.length_singleton
abbrev xFw:=@List.getElem?_toArray
abbrev xFx:=@List.forIn_cons
abbrev xFy:=@List.filterMap_append
abbrev xFz:=@wpAny_updateSeq_pair
abbrev xGa:=@codeAny_call_builtin
abbrev xGb:=@List.mem_of_mem_take
abbrev xGc:=@List.mem_of_mem_drop
abbrev xGd:=@List.getElem?_set_ne
abbrev xGe:=@List.getElem?_of_mem
abbrev xGf:=@Calls.evalArgs_plain
abbrev xGg:=@wpAny_setField
abbrev xGh:=@PySem.W.plainGet_of
abbrev xGi:=@List.take_succ_cons
abbrev xGj:=@List.map_congr_left
abbrev xGk:=@List.length_zipWith
abbrev xGl:=@PySem.F.args_tuple_iterator_next_1
abbrev xGm:=@wpAny_onRaise
abbrev xGn:=@wpAny_attempt
abbrev xGo:=@PySem.W.of_hideAll
abbrev xGp:=@PySem.F.entry_tuple_iterator_next
abbrev xGq:=@List.all_cons
abbrev xGr:=@Bool.true_and
abbrev xGt:=@Option.isSome_map
abbrev xGu:=@Nat.lt_of_succ_lt
abbrev xGv:=@List.take_sublist
abbrev xGw:=@List.flatMap_cons
abbrev xGx:=@Calls.spliced_nil
abbrev xGy:=@decide_eq_decide
abbrev xGz:=@List.drop_length
abbrev xHa:=@List.cons_append
abbrev xHb:=@wpAny_updateSeq
abbrev xHc:=@wpAny_of_eq
abbrev xHd:=@codeAny_builtin
abbrev xHe:=@List.nil_append
abbrev xHf:=@List.all_append
abbrev xHg:=@Int.emod_nonneg
abbrev xHh:=@wpAny_tryCatch
abbrev xHi:=@List.rel_of_pairwise_cons
abbrev xHj:=@List.forIn_nil
abbrev xHk:=@Array.getElem?_eq_getElem
abbrev xHl:=@wpAny_rule
abbrev xHm:=@wpAny_comprehension_free
abbrev xHo:=@Or.inr
abbrev xHp:=@List.length_filterMap_le
abbrev xHq:=@List.Nodup.idxOf_getElem
abbrev xHr:=@wpAny_standAt
abbrev xHu:=@PySem.F.args_zip_next_1
abbrev xHv:=@PySem.F.args_dict_get_2
abbrev xHw:=@List.map_take
abbrev xHx:=@List.length_eq_zero_iff
abbrev xHy:=@List.getElem?_replicate
abbrev xHz:=@Bool.or_false
abbrev xIa:=@wpAny_pyNext_list_item
abbrev xIc:=@PySem.F.entry_zip_next
abbrev xId:=@PySem.F.entry_max_loop
abbrev xIe:=@PySem.F.entry_dict_get
abbrev xIf:=@List.length_pos_of_mem
abbrev xIg:=@Calls.callWith_builtin
abbrev xIh:=@Array.getElem?_eq_none
abbrev xIi:=@wpAny_pyNext_list_end
abbrev xIj:=@wpAny_isTrue_Compare1
abbrev xIk:=@wpAny_isOneOf_keyiter
abbrev xIl:=@codeAny_func
abbrev xIm:=@List.all_map
abbrev xIn:=@List.Pairwise.of_cons
abbrev xIo:=@Int.zero_add
end L2
namespace L2
open PySem PySem.Spec PyProof.Rows PySem.W

abbrev Key:=Sum Int Str
def pZ:Key->Value->Bool
 | .inl k,v=>Value.isInt k v
 | .inr x,v=>Value.isStrOf x v
def aWp (w:World):Key->Int
 | .inl k=>hashInt k
 | .inr x=>hashStr w x
theorem dJ:∀ {k:Key}{v:Value},pZ k v=true->(∃ i t,k=Sum.inl i/\v=Value.int i t)\/(∃ x t,k=Sum.inr x/\v=Value.str x t)
 | .inl i,v,h=>by
  obtain⟨t,e⟩:=Value.isInt_shape (k:=i) (v:=v) h;exact .inl ⟨i,t,rfl,e⟩
 | .inr x,v,h=>by
  obtain⟨t,e⟩:=Value.isStrOf_shape (x:=x) (v:=v) h;exact .inr ⟨x,t,rfl,e⟩
theorem aFr (i:Int)(t:Tok):pZ (.inl i) (.int i t)=true:=by simp[pZ,Value.isInt]
theorem aFq (x:Str)(t:Tok):pZ (.inr x) (.str x t)=true:=by simp[pZ,Value.isStrOf]
theorem aRe (a b:Int):decide ((Sum.inl a:Key)=Sum.inl b)=(a==b):=by
 by_cases e:a=b
 ·subst e; simp
 ·have h:¬ (Sum.inl a:Key)=Sum.inl b:=λq=>e (Sum.inl.inj q);rw[xBc h];exact (xCn.mpr e).symm
theorem aRb (a b:Str):decide ((Sum.inr a:Key)=Sum.inr b)=decide (a=b):=by
 by_cases e:a=b
 ·subst e; simp
 ·have h:¬ (Sum.inr a:Key)=Sum.inr b:=λq=>e (Sum.inr.inj q);rw[xBc h,xBc e]
theorem aRd (a:Int)(b:Str):decide ((Sum.inl a:Key)=Sum.inr b)=false:=xBc (λq=>nomatch q)
theorem aRc (a:Str)(b:Int):decide ((Sum.inr a:Key)=Sum.inl b)=false:=xBc (λq=>nomatch q)

def dG (prog:Program)(w:World):PySem.KeyKind prog w Key where
 is:=pZ
 hash:=aWp w
 inj:=λv a b ha hb=>by
  rcases dJ ha with⟨i,t,rfl,rfl⟩ | ⟨x,t,rfl,rfl⟩
  ·rcases dJ hb with⟨j,u,rfl,e⟩ | ⟨y,u,rfl,e⟩
   ·injection e with e1 _; rw[e1]
   ·exact nomatch e
  ·rcases dJ hb with⟨j,u,rfl,e⟩ | ⟨y,u,rfl,e⟩
   ·exact nomatch e
   ·injection e with e1 _; rw[e1]
 byValue:=λk v h=>by
  rcases dJ h with⟨i,t,rfl,rfl⟩ | ⟨x,t,rfl,rfl⟩ <;> rfl
 pyHash:=λhv h=>by
  rcases dJ hv with⟨i,t,rfl,rfl⟩ | ⟨x,t,rfl,rfl⟩
  ·exact wpAny_pyHash_int h
  ·exact wpAny_pyHash_str h
 eqBool:=λhu hv h=>by
  rcases dJ hu with⟨i,t,rfl,rfl⟩ | ⟨x,t,rfl,rfl⟩
  ·rcases dJ hv with⟨j,u,rfl,rfl⟩ | ⟨y,u,rfl,rfl⟩
   ·rw[aRe] at h; exact wpAny_eqBool_int h
   ·rw[aRd] at h; exact SeqAt.EqAt.int_str i t y u _ _ _ _ h
  ·rcases dJ hv with⟨j,u,rfl,rfl⟩ | ⟨y,u,rfl,rfl⟩
   ·rw[aRc] at h; exact SeqAt.EqAt.str_int x t j u _ _ _ _ h
   ·rw[aRb] at h; exact wpAny_eqBool_str h
 «strs»:=λk x t v h=>by
  rcases dJ h with⟨i,u,rfl,e⟩ | ⟨y,u,rfl,e⟩
  ·exact nomatch e
  ·injection e with e1 _;subst e1;cases v <;> rfl

theorem yG (prog:Program)(w:World)(i:Int)(t:Tok):(dG prog w).is (.inl i) (.int i t)=true:=aFr i t
theorem yF (prog:Program)(w:World)(x:Str)(t:Tok):(dG prog w).is (.inr x) (.str x t)=true:=aFq x t

inductive V where
 | non | bl (b:Bool) | int (i:Int) | str (x:Str) | byt (b:Array UInt8) | flt (b:UInt64) | ref (a:Addr) | ty (n:String)
 deriving DecidableEq

def cC:V->Value->Prop
 | .non,u=>u=Value.none
 | .bl b,u=>u=Value.bool b
 | .int i,u=>∃ t,u=Value.int i t
 | .str x,u=>∃ t,u=Value.str x t
 | .byt b,u=>∃ t,u=Value.bytes b t
 | .flt b,u=>∃ t,u=Value.float b t
 | .ref a,u=>u=Value.ref a
 | .ty n,u=>u=Value.type n

abbrev bU:List V->List Value->Prop:=Paired cC
theorem bU.length {xs:List V}{us:List Value}(r:bU xs us):xs.length=us.length:=Paired.length r
theorem bU.get:∀ {xs:List V}{us:List Value}{i:Nat}{x:V},bU xs us->xs[i]?=some x->∃ u,us[i]?=some u/\cC x u
 | _,_,_,_,.nil,e=>by simp at e
 | _,_,0,_,.cons r _,e=>by simp at e; subst e; exact⟨_,rfl,r⟩
 | _,_,i+1,x,.cons _ t,e=>by
  obtain⟨u,h1,h2⟩:=bU.get (i:=i) (x:=x) t (by simpa using e);exact⟨u,by simpa using h1,h2⟩
theorem bU.append:∀ {xs ys:List V}{us ws:List Value},bU xs us->bU ys ws->bU (xs++ys) (us++ws)
 | _,_,_,_,.nil,s=>s
 | _,_,_,_,.cons r t,s=>.cons r (bU.append t s)
theorem bU.take:∀ {xs:List V}{us:List Value}(n:Nat),bU xs us->bU (xs.take n) (us.take n)
 | _,_,0,_=>.nil
 | _,_,_+1,.nil=>.nil
 | _,_,n+1,.cons r t=>.cons r (bU.take n t)
theorem bU.drop:∀ {xs:List V}{us:List Value}(n:Nat),bU xs us->bU (xs.drop n) (us.drop n)
 | _,_,0,r=>r
 | _,_,_+1,.nil=>.nil
 | _,_,n+1,.cons _ t=>bU.drop n t

def kG:Option V->Option Value->Prop
 | some v,some u=>cC v u
 | none,none=>True
 | _,_=>False
def KV {κ:Type}:List (κ×V)->List (κ×Value)->Prop:=Paired λ(p:κ×V) (q:κ×Value)=>p.1=q.1/\cC p.2 q.2

def kV:Key->V
 | .inl i=>.int i
 | .inr x=>.str x

inductive HO where
  | lst (xs:List V)
  | tup (xs:List V)
  | dK (kvs:List (Key×V)) | dT (kvs:List (List Key×V))
  | set (S:Int->Bool) (n:Nat)
  | ins (C dx:Addr) (fs:List (Str×V))
  | own (x:Addr)
  | xd (fs:List (Str×V))
  | met (f x:Addr)
  | rng (lo hi:Int)
  | frz (o:Obj) (u:HO)
  | tbl (ps:Array Value)
  | ext (φ:Heap->Prop)

abbrev Hp:=Addr->Option HO
def upd (H:Hp)(a:Addr)(o:HO):Hp:=λb=>if b=a then some o else H b
theorem aD {H:Hp}{a:Addr}{o:HO}:upd H a o a=some o:=by unfold upd; rw[xAz rfl]
theorem aH {H:Hp}{a b:Addr}{o:HO}(h:b≠a):upd H a o b=H b:=by unfold upd; rw[xAw h]
theorem eZ {H:Hp}{a b:Addr}{o u:HO}(h:H a=some o)(h':H b=some u)(d:o≠u):a≠b:=by
 intro e; subst e; rw[h] at h'; exact d (xBj h')
theorem aI {H:Hp}{a b:Addr}{o:HO}(h:H a=some o)(h':H b=none):a≠b:=by
 intro e; subst e; rw[h] at h'; cases h'

section
variable (P:Program) (w:World)
def dA (H:Hp)(h:Heap)(a:Addr):HO->Prop
 | .lst xs=>xs.length<=sizeLine/\∃ (its:List Value) (n:Nat),bU xs its/\h.get? a=some { cls:=.type "list",data:=.seq its.toArray n }
 | .tup xs=>xs.length<=sizeLine/\∃ its:List Value,bU xs its/\IsTup h a its.toArray
 | .dK kvs=>kvs.length<=sizeLine/\(a==sysModules)=false/\∃ vs,KV kvs vs/\h.DictOf (dG P w) a vs
 | .dT kvs=>kvs.length<=sizeLine/\(a==sysModules)=false/\∃ xs:List (List Key×Addr×Value),
   Paired (λ(p:List Key×V) (q:List Key×Addr×Value)=>p.1=q.1/\H q.2.1=some (.tup (p.1.map kV))/\cC p.2 q.2.2) kvs xs /\
   ∃ o es ep,h.get? a=some o/\o.ExactDict/\o.data=.dict es ep/\es.toList=xs.map (entryOfKey (tupleKind (dG P w)))/\(xs.map (·.1)).Nodup
 | .set S n=>h.SetOf (intKind P w) a S n
 | .ins C dx fs=>H dx=some (.own a)/\fs.length<=1000/\dx≠a/\h.get? a=some (instObj C dx) /\
   ∃ mA,h.Ns1 dx mA/\(∀ f,kG (fs.lookup f) (mA f))/\PySem.Within mA (fs.map (·.1))
 | .own _=>∃ o,h.get? a=some o
 | .xd fs=>∃ mA,h.Ns1 a mA/\∀ f,kG (fs.lookup f) (mA f)
 | .rng lo hi=>∃ t u v,h.get? a=some { cls:=.type "range",data:=.fields #[.int lo t,.int hi u,.int 1 v] }
 | .frz o u=>h.get? a=some o/\dA H h a u
 | .tbl ps=>h.get? a=some { cls:=.none,data:=.fields ps }
 | .met f x=>h.get? a=some (methodObj (.ref f) (.ref x))
 | .ext φ=>φ h/\(∃ o,h.get? a=some o)/\∀ h1 h2:Heap,φ h1->(∀ o,h1.get? a=some o->h2.get? a=some o)->φ h2
def HOk (H:Hp)(h:Heap):Prop:=∀ a o,H a=some o->dA P w H h a o
end

section
variable {P:Program}{w:World}{H H':Hp}{h h':Heap}{a:Addr}{o:HO}
theorem dA.lt (x:dA P w H h a o):a<h.objs.size:=by
 cases o with
 | lst xs=>obtain⟨_,_,_,_,e⟩:=x; exact xAp e
 | tup xs=>obtain⟨_,_,_,p⟩:=x; exact p.lt
 | dK kvs=>obtain⟨_,_,_,_,o,_,_,e,_⟩:=x; exact xAp e
 | dT kvs=>obtain⟨_,_,_,_,o,_,_,e,_⟩:=x; exact xAp e
 | set S n=>obtain⟨o,_,_,_,e,_⟩:=x; exact xAp e
 | ins C dx fs=>obtain⟨_,_,_,e,_⟩:=x; exact xAp e
 | own y=>obtain⟨_,e⟩:=x; exact xAp e
 | xd fs=>obtain⟨_,⟨_,_,_,e,_⟩,_⟩:=x; exact xAp e
 | rng lo hi=>obtain⟨_,_,_,e⟩:=x; exact xAp e
 | frz ob u=>obtain⟨e,_⟩:=x; exact xAp e
 | tbl ps=>exact xAp (show h.get? a=some _ from x)
 | met f y=>exact xAp (show h.get? a=some _ from x)
 | ext φ=>obtain⟨_,⟨_,e⟩,_⟩:=x; exact xAp e
theorem Paired.mapP {α β:Type}{F G:α->β->Prop}:∀ {l₁:List α}{l₂:List β},Paired F l₁ l₂->(∀ a b,F a b->G a b)->Paired G l₁ l₂
 | _,_,.nil,_=>.nil
 | _,_,.cons r t,f=>.cons (f _ _ r) (Paired.mapP t f)
theorem dA.stay (x:dA P w H h a o)(k:∀ b u,(b=a\/H b=some (.own a))->h.get? b=some u->h'.get? b=some u)
  (ho:∀ b,H b=some (.own a)->H' b=some (.own a))(ht:∀ b xs,H b=some (.tup xs)->H' b=some (.tup xs)):dA P w H' h' a o:=by
 induction o with
 | lst xs=>obtain⟨z,its,n,r,e⟩:=x; exact⟨z,its,n,r,k _ _ (.inl rfl) e⟩
 | tup xs=>obtain⟨z,its,r,ob,e,c⟩:=x; exact⟨z,its,r,ob,k _ _ (.inl rfl) e,c⟩
 | dK kvs=>obtain⟨z,y,vs,r,ob,es,ep,e,c⟩:=x; exact⟨z,y,vs,r,ob,es,ep,k _ _ (.inl rfl) e,c⟩
 | dT kvs=>
  obtain⟨z,y,xs,r,ob,es,ep,e,c⟩:=x;exact⟨z,y,xs,Paired.mapP r λp q z=>⟨z.1,ht _ _ z.2.1,z.2.2⟩,ob,es,ep,k _ _ (.inl rfl) e,c⟩
 | set S n=>obtain⟨ob,es,ep,t,e,c⟩:=x; exact⟨ob,es,ep,t,k _ _ (.inl rfl) e,c⟩
 | ins C dx fs=>
  obtain⟨d,z,ne,e,mA,⟨od,es,ep,e2,c⟩,r⟩:=x;exact⟨ho _ d,z,ne,k _ _ (.inl rfl) e,mA,⟨od,es,ep,k _ _ (.inr d) e2,c⟩,r⟩
 | own y=>obtain⟨ob,e⟩:=x; exact⟨ob,k _ _ (.inl rfl) e⟩
 | xd fs=>obtain⟨mA,⟨od,es,ep,e,c⟩,r⟩:=x; exact⟨mA,⟨od,es,ep,k _ _ (.inl rfl) e,c⟩,r⟩
 | rng lo hi=>obtain⟨t,u,v,e⟩:=x; exact⟨t,u,v,k _ _ (.inl rfl) e⟩
 | frz ob u ih=>obtain⟨e,q⟩:=x; exact⟨k _ _ (.inl rfl) e,ih q⟩
 | tbl ps=>
  have e:h.get? a=some { cls:=.none,data:=.fields ps }:=x;show h'.get? a=some { cls:=.none,data:=.fields ps };exact k a _ (.inl rfl) e
 | met f y=>
  have e:h.get? a=some (methodObj (.ref f) (.ref y)):=x;show h'.get? a=some (methodObj (.ref f) (.ref y));exact k a _ (.inl rfl) e
 | ext φ=>obtain⟨p,⟨o,e⟩,st⟩:=x; exact⟨st _ _ p λo q=>k _ _ (.inl rfl) q,⟨o,k _ _ (.inl rfl) e⟩,st⟩
theorem HOk.lt (x:HOk P w H h)(e:H a=some o):a<h.objs.size:=(x a o e).lt
theorem HOk.fresh (x:HOk P w H h)(e:h.objs.size<=a):H a=none:=by
 cases q:H a with
 | none=>rfl
 | some u=>exact xAu (xAy (x.lt q) e) (xDi _)
theorem HOk.kept (x:HOk P w H h)(k:∀ b u,h.get? b=some u->h'.get? b=some u):HOk P w H h':=λa o e=>
 (x a o e).stay (λb u _ q=>k b u q) (λ_ q=>q) λ_ _ q=>q
theorem HOk.laid (x:HOk P w H h)(k:∀ b u,h.get? b=some u->h'.get? b=some u)(hp:h.objs.size<=a)(new:dA P w (upd H a o) h' a o):HOk P w (upd H a o) h':=λb u e=>by
 have hn:=x.fresh hp
 by_cases hb:b=a
 ·subst hb; rw[aD] at e; cases e; exact new
 ·rw[aH hb] at e;exact (x b u e).stay (λc v _ q=>k c v q) (λc q=>by rw[aH (aI q hn)]; exact q) λc xs q=>by rw[aH (aI q hn)]; exact q
end

def Rd (H:Hp)(a:Addr)(u:HO):Prop:=H a=some u\/∃ o,H a=some (.frz o u)
theorem Rd.ok {P:Program}{w:World}{H:Hp}{h:Heap}{a:Addr}{u:HO}(r:Rd H a u)(x:HOk P w H h):dA P w H h a u:=by
 rcases r with r | ⟨o,r⟩
 ·exact x a u r
 ·obtain⟨_,q⟩:=x a _ r;exact q
def Mut:Option HO->Prop
 | some (.lst _)=>True
 | some (.dK _)=>True
 | some (.dT _)=>True
 | some (.set _ _)=>True
 | some (.ins _ _ _)=>True
 | some (.ext _)=>True
 | _=>False
section
variable {P:Program}{w:World}{H:Hp}{h h':Heap}{x e:Addr}{o':HO}
theorem HOk.write (ok:HOk P w H h)(mu:Mut (H x))(he:e=x\/H e=some (.own x))(k:∀ b u,b≠e->h.get? b=some u->h'.get? b=some u)(heo:∃ u,h'.get? e=some u)
  (new:dA P w (upd H x o') h' x o'):HOk P w (upd H x o') h':=λb u q=>by
 have nown:∀ c y,H c=some (.own y)->c≠x:=λc y r z=>by subst z; rw[r] at mu; exact mu
 have ntup:∀ c xs,H c=some (.tup xs)->c≠x:=λc xs r z=>by subst z; rw[r] at mu; exact mu
 by_cases hb:b=x
 ·subst hb; rw[aD] at q; cases q; exact new
 ·rw[aH hb] at q
  by_cases hbe:b=e
  ·have q':H b=some (.own x):=by
    rcases he with z | z
    ·exact xAu (hbe.trans z) hb
    ·rw[hbe]; exact z
   rw[q] at q'; cases q';obtain⟨v,hv⟩:=heo;exact⟨v,by rw[hbe]; exact hv⟩
  ·refine (ok b u q).stay (λc v hc r=>k c v ?_ r) (λc r=>by rw[aH (nown c b r)]; exact r) λc xs r=>by rw[aH (ntup c xs r)]; exact r
   rcases hc with rfl | hc
   ·exact hbe
   ·rintro rfl;rcases he with z | z
    ·exact nown c b hc z
    ·rw[hc] at z; cases z; exact hb rfl
end

structure Un (fs ex:List Addr)(H H':Hp)(h h':Heap):Prop where
 keep:∀ b o,h.get? b=some o->H b=none->b∉fs->b∉ex->h'.get? b=some o
 slot:∀ b o,h.get? b=some o->H b=none->b∈fs->b∉ex->∃ sl,h'.get? b=some { o with slots:=sl }
 free:∀ b o,h.get? b=some o->H b=none->b∉ex->H' b=none
 there:∀ b o,h.get? b=some o->b∉ex->∃ o',h'.get? b=some o'
 tups:∀ b xs,H b=some (.tup xs)->H' b=some (.tup xs)
 frzs:∀ b o u,H b=some (.frz o u)->H' b=some (.frz o u)
 tbls:∀ b ps,H b=some (.tbl ps)->∃ more,H' b=some (.tbl (ps++more))
section
variable {fs fs' ex ex':List Addr}{H H1 H2:Hp}{h h1 h2 h':Heap}{a x e:Addr}{o:HO}
theorem Un.any (u:Un fs ex H H1 h h1){b:Addr}{ob:Obj}(q:h.get? b=some ob)(n:H b=none)(hx:b∉ex):∃ sl,h1.get? b=some { ob with slots:=sl }:=by
 by_cases hb:b∈fs
 ·exact u.slot b ob q n hb hx
 ·exact⟨ob.slots,u.keep b ob q n hb hx⟩
theorem Un.kept (k:∀ b u,h.get? b=some u->h'.get? b=some u):Un fs ex H H h h':=
 ⟨λb ob q _ _ _=>k b ob q,λb ob q _ _ _=>⟨ob.slots,k b ob q⟩,λ_ _ _ n _=>n,λb ob q _=>⟨ob,k b ob q⟩,λ_ _ q=>q,λ_ _ _ q=>q,λ_ ps q=>⟨#[],by rw[q]; simp⟩⟩
theorem Un.refl:Un fs ex H H h h:=Un.kept λ_ _ q=>q
theorem Un.laid (k:∀ b u,h.get? b=some u->h'.get? b=some u)(hp:h.objs.size<=a)(hn:H a=none):Un fs ex H (upd H a o) h h' where
 keep:=λb u q _ _ _=>k b u q
 slot:=λb u q _ _ _=>⟨u.slots,k b u q⟩
 free:=λb u q n _=>by rw[aH (xBd (xAy (xAp q) hp))]; exact n
 there:=λb u q _=>⟨u,k b u q⟩
 tups:=λb xs q=>by rw[aH (aI q hn)]; exact q
 frzs:=λb u xs q=>by rw[aH (aI q hn)]; exact q
 tbls:=λb ps q=>⟨#[],by rw[aH (aI q hn),q]; simp⟩
theorem Un.write (mu:Mut (H x))(he:e=x\/H e=some (.own x))(k:∀ b u,b≠e->h.get? b=some u->h'.get? b=some u)(heo:∃ u,h'.get? e=some u):Un fs ex H (upd H x o) h h':=by
 have hx:∀ b,H b=none->b≠x:=λb n z=>by subst z; rw[n] at mu; exact mu
 have hb:∀ b,H b=none->b≠e:=λb n z=>by
  subst z;rcases he with r | r
  ·exact hx b n r
  ·rw[n] at r; cases r
 have hm:∀ b u,H b=some u->¬ Mut (some u)->b≠x:=λb u q nm z=>by subst z; rw[q] at mu; exact nm mu
 refine⟨λb u q n _ _=>k b u (hb b n) q,λb u q n _ _=>⟨u.slots,k b u (hb b n) q⟩,λb u q n _=>by rw[aH (hx b n)]; exact n,λb u q _=>?_,
  λb xs q=>by rw[aH (hm b _ q λz=>z)]; exact q,λb u xs q=>by rw[aH (hm b _ q λz=>z)]; exact q,λb ps q=>⟨#[],by rw[aH (hm b _ q λz=>z),q]; simp⟩⟩
 by_cases hbe:b=e
 ·subst hbe; exact heo
 ·exact⟨u,k b u hbe q⟩
end

def trk (h:Heap)(H:Hp):List Addr:=(List.range h.objs.size).filter λa=>(H a).isSome
def wK (h:Heap)(H:Hp):Heap:=hideAll h (trk h H)
theorem aFt (h:Heap)(H:Hp):(wK h H).objs.size=h.objs.size:=hideAll_size _ _
theorem sQ {h:Heap}{H:Hp}{b:Addr}{o:Obj}(e:h.get? b=some o)(n:H b=none):(wK h H).get? b=some o:=
 xEo _ e λhm=>by
  have q:(H b).isSome=true:=(xCd.mp hm).2;rw[n] at q; simp at q
theorem aMz {h:Heap}{H:Hp}{b:Addr}{o:Obj}(e:(wK h H).get? b=some o):h.get? b=some o/\H b=none:=by
 have e':h.get? b=some o:=xGo (trk h H) e;refine⟨e',?_⟩;cases q:H b with
 | none=>rfl
 | some x=>
  have hm:b∈trk h H:=xCd.mpr ⟨xCa.mpr (xAp e'),by simp[q]⟩;have z:(wK h H).get? b=none:=hideAll_none (trk h H) hm;rw[z] at e; cases e


structure Mod (K:xAb)(mg:xSO)(base:Heap):Prop where
 kin:K.In base
 glob:base.Ns mainGlobals mg
 blt:∃ mb,base.Ns builtinsNs mb/\∀ x:Str,x≠"__name__" -> mb x=bootBuiltins x
 nolimit:base.NoLimit

structure Cx where
 prog:Program
 w:World
 K:xAb
 mg:Str->Option Value
 base:Heap
 A:Around
 N:List Str
 s₀:Shared
 H₀:Hp
 env:Env
 outer:List Env
 stack:List Env
 ex:List Addr
 fn:Str->Bool
 calm:Bool
 pn:List (Addr×Obj)
 xe:Value->Shared->Prop
def frs (l:List Env):List Addr:=l.filterMap (·.frame)
abbrev Cx.fs (X:Cx):List Addr:=frs X.outer

def Vis (sc:Scope)(x:Str):Prop:=sc.names.lookup x=some .local\/sc.names.lookup x=some .cell\/sc.names.lookup x=some .free
def Loc (sc:Scope)(x:Str):Prop:=sc.names.lookup x=some .local\/sc.names.lookup x=some .cell
def aTw (env:Env)(h:Heap)(m:xSO)(x:Str)(u:Value):Prop:=
 (env.kindOf x=some .local/\m x=some u)\/((env.kindOf x=some .cell\/env.kindOf x=some .free)/\∃ c,env.cells.lookup x=some c/\h.IsCell c (some u))

structure Cx.Ok (X:Cx):Prop where
 mod:Mod X.K X.mg X.base
 kind:X.env.scope.kind=.function
 glob:X.env.globals=mainGlobals
 blt:X.env.builtins=builtinsNs
 above:X.s₀.heap.objs.size<=X.env.locals
 inj:∀ x y c,X.env.cells.lookup x=some c->X.env.cells.lookup y=some c->x=y
 has:∀ x,(X.env.kindOf x=some .cell\/X.env.kindOf x=some .free)->∃ c,X.env.cells.lookup x=some c
 cab:∀ x c,X.fn x=true->X.env.cells.lookup x=some c->X.s₀.heap.objs.size<=c
 hd:X.calm=true->X.A.handled=none
 frames:X.A.frames=some X.stack
 stk:X.stack=X.outer\/(X.stack=X.env::X.outer/\X.env.frame=some X.env.locals)
 exf:∀ b∈X.ex,b≠X.env.locals/\∀ x c,X.env.cells.lookup x=some c->c≠b
 bs:∀ b o,X.base.get? b=some o->X.s₀.heap.get? b=some o/\X.H₀ b=none
 bsz:X.base.objs.size<=X.s₀.heap.objs.size
 noex:∀ b o,X.base.get? b=some o->b∉X.ex
 exfs:∀ b∈X.ex,b∉X.fs
 funs:X.s₀.heap.FunFrames X.base X.outer
 frf:∀ b∈X.fs,X.H₀ b=none

structure Inv (X:Cx)(pins:xPn)(σ:List (Option V))(H:Hp)(s:Shared):Prop where
 ok:X.Ok
 os:s.os=X.s₀.os
 bare:AllBare s.gens
 base:Un X.fs X.ex X.H₀ H X.s₀.heap s.heap
 loc:∃ m,s.heap.Ns X.env.locals m/\∀ (i:Nat) (x:Str) (v:V),X.N[i]?=some x->σ[i]?=some (some v)->Vis X.env.scope x->∃ u,cC v u/\aTw X.env s.heap m x u
 cell:∀ x c,X.env.cells.lookup x=some c->∃ v,s.heap.IsCell c v
 free:H X.env.locals=none
 freeC:∀ x c,X.env.cells.lookup x=some c->H c=none
 pin:∀ p∈X.pn++pins,s.heap.get? p.1=some p.2/\H p.1=none/\p.1≠X.env.locals/\p.1∉X.fs/\∀ v,p.2.data≠.cell v
 hok:HOk X.prog X.w H s.heap
 len:σ.length=X.N.length

section
variable {X:Cx}{pins:xPn}{σ:List (Option V)}{H H':Hp}{s:Shared}{h':Heap}

theorem Cx.Ok.nofr (ok:X.Ok){b:Addr}{o:Obj}(e:X.base.get? b=some o):b∉X.fs:=λhb=>by
 have:=(ok.funs.mem hb).1
 rw[e] at this; cases this
theorem Inv.bs (I:Inv X pins σ H s):∀ b o,X.base.get? b=some o->s.heap.get? b=some o/\H b=none:=λb o e=>
 ⟨I.base.keep b o (I.ok.bs b o e).1 (I.ok.bs b o e).2 (I.ok.nofr e) (I.ok.noex b o e),I.base.free b o (I.ok.bs b o e).1 (I.ok.bs b o e).2 (I.ok.noex b o e)⟩
theorem Inv.bk (I:Inv X pins σ H s):∀ b o,X.base.get? b=some o->s.heap.get? b=some o:=λb o e=>(I.bs b o e).1
theorem Inv.mod (I:Inv X pins σ H s):Mod X.K X.mg X.base:=I.ok.mod
theorem Inv.kIn (I:Inv X pins σ H s):X.K.In s.heap:=I.ok.mod.kin.keeps I.bk
theorem Inv.lt (I:Inv X pins σ H s):X.env.locals<s.heap.objs.size:=let ⟨_,hn,_⟩:=I.loc; hn.lt
theorem Inv.sz (I:Inv X pins σ H s):X.s₀.heap.objs.size<=s.heap.objs.size:=xAs I.ok.above (xEg I.lt)
theorem Inv.nofs (I:Inv X pins σ H s){a:Addr}(h:s.heap.objs.size<=a):a∉X.fs:=λhb=>by
 obtain⟨_,o,ho,_⟩:=I.ok.funs.mem hb;exact xAu (xAy (xAp ho) (xAs I.sz h)) (xDi _)
theorem Inv.cne (I:Inv X pins σ H s):∀ x c,X.env.cells.lookup x=some c->c≠X.env.locals:=λx c e z=>by
 obtain⟨v,o,ho,hd⟩:=I.cell x c e;obtain⟨m,⟨o',es,ep,ho',hd',_⟩,_⟩:=I.loc;rw[z,ho'] at ho; cases ho; rw[hd'] at hd; cases hd
theorem Inv.funs (I:Inv X pins σ H s):s.heap.FunFrames X.base X.outer:=by
 have all:∀ (l:List Env),(∀ b∈frs l,b∈X.fs)->X.s₀.heap.FunFrames X.base l->s.heap.FunFrames X.base l:=by
  intro l
  induction l with
  | nil=>intro _ _; trivial
  | cons env r ih=>
   intro hs hl;obtain⟨hk,⟨L,o,hf,hn,ho,hd⟩,hr⟩:=hl;have hL:L∈X.fs:=hs L (by unfold frs; rw[xEt,hf]; exact xBm);obtain⟨sl,e⟩:=I.base.slot L o ho (I.ok.frf L hL) hL λz=>I.ok.exfs L z hL;exact⟨hk,⟨L,_,hf,hn,e,hd⟩,ih (λb hb=>hs b (by unfold frs; rw[xEt,hf]; exact xBi _ hb)) hr⟩
 exact all X.outer (λ_ hb=>hb) I.ok.funs

theorem Inv.stack (I:Inv X pins σ H s):s.heap.FunFrames X.base X.stack:=by
 rcases I.ok.stk with e | ⟨e,hf⟩
 ·rw[e]; exact I.funs
 ·rw[e];obtain⟨m,hn,_⟩:=I.loc;refine .cons (by rw[I.ok.kind]; decide) hf hn ?_ I.funs;exact Heap.get?_none_of_le (xAs I.ok.bsz I.ok.above)
theorem Inv.stkSub (I:Inv X pins σ H s):∀ b∈frs X.stack,b∈X.env.locals::X.fs:=λb hb=>by
 rcases I.ok.stk with e | ⟨e,hf⟩
 ·rw[e] at hb; exact xBi _ hb
 ·rw[e] at hb;unfold frs at hb;rw[xEt,hf] at hb;exact hb
theorem Inv.stkFree (I:Inv X pins σ H s):∀ b∈frs X.stack,H b=none:=λb hb=>by
 rcases xAk.mp (I.stkSub b hb) with e | hb
 ·rw[e]; exact I.free
 ·obtain⟨_,o,ho,_⟩:=I.ok.funs.mem hb;exact I.base.free b o ho (I.ok.frf b hb) λz=>I.ok.exfs b z hb

theorem Inv.step {g':Array GenState}{t':Nat}{d':Drawn}{ch:List Addr}(I:Inv X pins σ H s)
  (hch:∀ b∈ch,(b∈X.ex\/X.s₀.heap.objs.size<=b)/\b≠X.env.locals/\(∀ x c,X.env.cells.lookup x=some c->c≠b)/\∀ p∈X.pn++pins,p.1≠b)
  (keep:∀ b o,b≠X.env.locals->b∉X.fs->b∉ch->s.heap.get? b=some o->H b=none->h'.get? b=some o)
  (slot:∀ b o,b≠X.env.locals->b∈X.fs->b∉ch->s.heap.get? b=some o->H b=none->∃ sl,h'.get? b=some { o with slots:=sl })(free:∀ b o,b∉ch->s.heap.get? b=some o->H b=none->H' b=none)
  (there:∀ b o,b∉ch->s.heap.get? b=some o->∃ o',h'.get? b=some o')
  (tups:∀ b xs,H b=some (.tup xs)->H' b=some (.tup xs))(frzs:∀ b o u,H b=some (.frz o u)->H' b=some (.frz o u))(tbls:∀ b ps,H b=some (.tbl ps)->∃ more,H' b=some (.tbl (ps++more)))
  (ns:∀ m,s.heap.Ns X.env.locals m->h'.Ns X.env.locals m)(hok:HOk X.prog X.w H' h')(hg:AllBare g') :
  Inv X pins σ H' { s with heap:=h',gens:=g',drawn:=d',toks:=t' }:=by
 have neL:∀ b o,X.s₀.heap.get? b=some o->b≠X.env.locals:=λb o e=>xBd (xAy (xAp e) I.ok.above)
 have neC:∀ b o,X.s₀.heap.get? b=some o->b∉X.ex->b∉ch:=λb o e hx hb=>by
  rcases (hch b hb).1 with z | z
  ·exact hx z
  ·exact xAu (xAy (xAp e) z) (xDi _)
 have cellK:∀ x c,X.env.cells.lookup x=some c->∀ v,s.heap.IsCell c v->h'.IsCell c v:=λx c e v ⟨o,ho,hd⟩=>by
  have nch:c∉ch:=λz=>(hch c z).2.2.1 x c e rfl
  by_cases hc:c∈X.fs
  ·obtain⟨sl,q⟩:=slot c o (I.cne x c e) hc nch ho (I.freeC x c e);exact⟨_,q,hd⟩
  ·exact⟨o,keep c o (I.cne x c e) hc nch ho (I.freeC x c e),hd⟩
 refine⟨I.ok,I.os,hg,⟨λb o e n hb hx=>?_,λb o e n hb hx=>?_,λb o e n hx=>?_,λb o e hx=>?_,λb xs e=>tups b xs (I.base.tups b xs e),λb o xs e=>frzs b o xs (I.base.frzs b o xs e),λb ps e=>?_⟩,?_,λx c e=>?_,?_,λx c e=>?_,λp hp=>?_,hok,I.len⟩
 ·exact keep b o (neL b o e) hb (neC b o e hx) (I.base.keep b o e n hb hx) (I.base.free b o e n hx)
 ·obtain⟨sl,e1⟩:=I.base.slot b o e n hb hx;obtain⟨sl',e2⟩:=slot b _ (neL b o e) hb (neC b o e hx) e1 (I.base.free b o e n hx);exact⟨sl',e2⟩
 ·obtain⟨o',e1⟩:=I.base.there b o e hx;exact free b o' (neC b o e hx) e1 (I.base.free b o e n hx)
 ·obtain⟨o',e1⟩:=I.base.there b o e hx;exact there b o' (neC b o e hx) e1
 ·obtain⟨m1,e1⟩:=I.base.tbls b ps e;obtain⟨m2,e2⟩:=tbls b _ e1;exact⟨m1++m2,by rw[e2,Array.append_assoc]⟩
 ·obtain⟨m,hn,hl⟩:=I.loc;refine⟨m,ns m hn,λi x v e1 e2 e3=>?_⟩;obtain⟨u,r,l⟩:=hl i x v e1 e2 e3;refine⟨u,r,?_⟩;rcases l with l | ⟨k,c,e,z⟩
  ·exact .inl l
  ·exact .inr ⟨k,c,e,cellK x c e _ z⟩
 ·obtain⟨v,z⟩:=I.cell x c e;exact⟨v,cellK x c e v z⟩
 ·obtain⟨m,⟨o,_,_,ho,_⟩,_⟩:=I.loc;exact free _ o (λz=>(hch _ z).2.1 rfl) ho I.free
 ·obtain⟨v,o,ho,hd⟩:=I.cell x c e;exact free c o (λz=>(hch c z).2.2.1 x c e rfl) ho (I.freeC x c e)
 ·obtain⟨e,n,ne,nf,d⟩:=I.pin p hp;have nch:p.1∉ch:=λz=>(hch p.1 z).2.2.2 p hp rfl;exact⟨keep p.1 p.2 ne nf nch e n,free p.1 p.2 nch e n,ne,nf,d⟩
theorem Inv.un {t':Nat}(I:Inv X pins σ H s)(u:Un X.fs [] H H' s.heap h')(hok:HOk X.prog X.w H' h'):Inv X pins σ H' { s with heap:=h',toks:=t' }:=by
 obtain⟨m,⟨o,es,ep,ho,r⟩,_⟩:=id I.loc;obtain⟨sl,hL⟩:=u.any ho I.free (by simp)
 exact I.step (g':=s.gens) (d':=s.drawn) (ch:=[]) (λ_ z=>nomatch z) (λb o _ hb _ e n=>u.keep b o e n hb (by simp)) (λb o _ hb _ e n=>u.slot b o e n hb (by simp)) (λb o _ e n=>u.free b o e n (by simp)) (λb o _ e=>u.there b o e (by simp)) u.tups u.frzs u.tbls (λm' hm=>by
  obtain⟨o',es',ep',ho',r'⟩:=hm;rw[ho] at ho'; cases ho';exact⟨_,es',ep',hL,r'⟩) hok I.bare
theorem Inv.call {g':Array GenState}{t':Nat}{d':Drawn}{ch:List Addr}(I:Inv X pins σ H s)(u:Un (frs X.stack) ch H H' s.heap h')(hok:HOk X.prog X.w H' h')(hg:AllBare g')
  (hch:∀ b∈ch,(b∈X.ex\/X.s₀.heap.objs.size<=b)/\b≠X.env.locals/\(∀ x c,X.env.cells.lookup x=some c->c≠b)/\∀ p∈X.pn++pins,p.1≠b) :
  Inv X pins σ H' { s with heap:=h',gens:=g',drawn:=d',toks:=t' }:=by
 obtain⟨m,⟨o,es,ep,ho,r⟩,_⟩:=id I.loc;obtain⟨sl,hL⟩:=u.any ho I.free λz=>(hch _ z).2.1 rfl
 exact I.step (ch:=ch) hch (λb o hL hb hc e n=>u.keep b o e n (λz=>(xAk.mp (I.stkSub b z)).elim hL hb) hc) (λb o _ _ hc e n=>u.any e n hc) (λb o hc e n=>u.free b o e n hc) (λb o hc e=>u.there b o e hc) u.tups u.frzs u.tbls (λm' hm=>by
  obtain⟨o',es',ep',ho',r'⟩:=hm;rw[ho] at ho'; cases ho';exact⟨_,es',ep',hL,r'⟩) hok hg
theorem Inv.turned {t':Nat}{it:Addr}(I:Inv X pins σ H s)(k:∀ b o,b≠it->s.heap.get? b=some o->h'.get? b=some o)(hn:H it=none)(hL:it≠X.env.locals)
  (h1:it∈X.ex\/X.s₀.heap.objs.size<=it)(h2:∀ x c,X.env.cells.lookup x=some c->c≠it)(h3:∀ p∈X.pn++pins,p.1≠it):Inv X pins σ H { s with heap:=h',toks:=t' }:=by
 have nit:∀ b u,H b=some u->b≠it:=λb u e z=>by rw[z,hn] at e; cases e
 refine I.step (g':=s.gens) (d':=s.drawn) (ch:=[it]) (λb hb=>?_) (λb o _ _ hc e _=>k b o (λz=>hc (by simp[z])) e) (λb o _ _ hc e _=>⟨o.slots,k b o (λz=>hc (by simp[z])) e⟩) (λ_ _ _ _ n=>n)
  (λb o hc e=>⟨o,k b o (λz=>hc (by simp[z])) e⟩) (λ_ _ e=>e) (λ_ _ _ e=>e) (λb ps e=>⟨#[],by rw[e]; simp⟩) (λm hm=>?_) (λb u e=>?_) I.bare
 ·have e:b=it:=by simpa using hb
  subst e;exact⟨h1,hL,h2,h3⟩
 ·obtain⟨o,es,ep,ho,r⟩:=hm;exact⟨o,es,ep,k _ o (Ne.symm hL) ho,r⟩
 ·refine (I.hok b u e).stay (λc v hc q=>k c v ?_ q) (λ_ q=>q) λ_ _ q=>q;rcases hc with z | z
  ·rw[z]; exact nit b u e
  ·exact nit c _ z
theorem Inv.tok (I:Inv X pins σ H s)(t:Nat):Inv X pins σ H { s with toks:=t }:=I.un (h':=s.heap) (t':=t) Un.refl I.hok
theorem Inv.kept {t':Nat}(I:Inv X pins σ H s)(k:∀ b u,s.heap.get? b=some u->h'.get? b=some u):Inv X pins σ H { s with heap:=h',toks:=t' }:=I.un (Un.kept k) (I.hok.kept k)
theorem Inv.laid {a:Addr}{o:HO}{t':Nat}(I:Inv X pins σ H s)(k:∀ b u,s.heap.get? b=some u->h'.get? b=some u)(hp:s.heap.objs.size<=a)(new:dA X.prog X.w (upd H a o) h' a o) :
  Inv X pins σ (upd H a o) { s with heap:=h',toks:=t' }:=I.un (Un.laid k hp (I.hok.fresh hp)) (I.hok.laid k hp new)
theorem Inv.write {x e:Addr}{o:HO}{t':Nat}(I:Inv X pins σ H s)(mu:Mut (H x))(he:e=x\/H e=some (.own x))(k:∀ b u,b≠e->s.heap.get? b=some u->h'.get? b=some u)(heo:∃ u,h'.get? e=some u)
  (new:dA X.prog X.w (upd H x o) h' x o):Inv X pins σ (upd H x o) { s with heap:=h',toks:=t' }:=I.un (Un.write mu he k heo) (I.hok.write mu he k heo new)
theorem Inv.pins_of {pins':xPn}(I:Inv X pins σ H s)(h:∀ p∈pins',s.heap.get? p.1=some p.2/\H p.1=none/\p.1≠X.env.locals/\p.1∉X.fs/\∀ v,p.2.data≠.cell v):Inv X pins' σ H s:=
 ⟨I.ok,I.os,I.bare,I.base,I.loc,I.cell,I.free,I.freeC,λp hp=>(xBy.mp hp).elim (λz=>I.pin p (xDf _ z)) (h p),I.hok,I.len⟩

theorem yC {N:List Str}(hN:N.Nodup){i j:Nat}{x:Str}(a:N[i]?=some x)(b:N[j]?=some x):i=j:=by
 obtain⟨h1,e1⟩:=xAd.mp a;obtain⟨h2,e2⟩:=xAd.mp b;exact (List.getElem_inj hN).mp (e1.trans e2.symm)

theorem tZ {M:Model}{A:Around}{E:xVP}{i:Nat}{x:Str}{v:V}{u:Value}{Q:Unit->Shared->Prop}(I:Inv X pins σ H s)(hN:X.N.Nodup)(hi:X.N[i]?=some x)(hx:Loc X.env.scope x)(r:cC v u)
  (h:∀ s',Inv X pins (σ.set i (some v)) H s'->(∃ a,Heap.SameBut a s.heap s'.heap/\(a=X.env.locals\/X.env.cells.lookup x=some a))->Q () s')(hf:X.fn x=true\/X.env.scope.names.lookup x=some .local:=by first | exact .inl rfl | exact .inr rfl | assumption):wpAny M A (storeName X.env x u) Q E s:=by
 obtain⟨m,hn,hl⟩:=id I.loc;have hcls:(X.env.scope.kind==.class||(X.env.scope.kind==.module&&X.env.locals != X.env.globals))=false:=by rw[I.ok.kind]; rfl
 have hiσ:i<σ.length:=by rw[I.len]; exact (xAd.mp hi).1
 have cne:=I.cne
 have tracked:∀ {a:Addr}{h':Heap},(∃ o,s.heap.get? a=some o/\H a=none)->Heap.SameBut a s.heap h'->HOk X.prog X.w H h':=λ{a h'} ha hs b ob e=>by
  obtain⟨_,_,hfree⟩:=ha;refine (I.hok b ob e).stay (λc w' hc q=>(hs.2 c ?_).trans q) (λ_ q=>q) λ_ _ q=>q;rintro rfl;rcases hc with rfl | hc
  ·rw[hfree] at e; cases e
  ·rw[hfree] at hc; cases hc
 rcases hx with hk | hk
 ·refine wpAny_storeName_local hk hn (λh' hn' hs=>?_) hcls;obtain⟨oL,_,_,hoL,_⟩:=id hn;refine h _ ⟨I.ok,I.os,I.bare,⟨λb o e n hb hx=>?_,λb o e n hb hx=>?_,I.base.free,λb o e hx=>?_,I.base.tups,I.base.frzs,I.base.tbls⟩,⟨_,hn',λj y v' e1 e2 e3=>?_⟩,λy c e=>?_,I.free,I.freeC,λp hp=>?_,tracked ⟨oL,hoL,I.free⟩ hs,by simpa using I.len⟩ ⟨_,hs,.inl rfl⟩
  ·exact (hs.2 b (xBd (xAy (xAp e) I.ok.above))).trans (I.base.keep b o e n hb hx)
  ·obtain⟨sl,e1⟩:=I.base.slot b o e n hb hx;exact⟨sl,(hs.2 b (xBd (xAy (xAp e) I.ok.above))).trans e1⟩
  ·obtain⟨o',e1⟩:=I.base.there b o e hx;exact⟨o',(hs.2 b (xBd (xAy (xAp e) I.ok.above))).trans e1⟩
  ·by_cases hj:j=i
   ·subst hj;rw[hi] at e1; cases e1;rw[xFo hiσ] at e2;cases e2;exact⟨u,r,.inl ⟨hk,by simp⟩⟩
   ·rw[xGd (Ne.symm hj)] at e2;obtain⟨u',r',q⟩:=hl j y v' e1 e2 e3;refine⟨u',r',?_⟩;rcases q with⟨k,e⟩ | ⟨k,c,e,z⟩
    ·refine .inl ⟨k,?_⟩
     have:y≠x:=λe=>hj (yC hN e1 (e▸hi))
     simp[this,e]
    ·exact .inr ⟨k,c,e,z.sameBut hs (cne y c e)⟩
  ·obtain⟨w',z⟩:=I.cell y c e;exact⟨w',z.sameBut hs (cne y c e)⟩
  ·obtain⟨e,n,ne,nf,d⟩:=I.pin p hp;exact⟨(hs.2 p.1 ne).trans e,n,ne,nf,d⟩
 ·have hfn:X.fn x=true:=by
   rcases hf with z | z
   ·exact z
   ·rw[z] at hk; cases hk
  obtain⟨c,hc⟩:=I.ok.has x (.inl hk);obtain⟨w',z⟩:=I.cell x c hc;refine wpAny_storeName_cell I.ok.kind hk hc z (λh' hc' hs=>?_);obtain⟨oc,hoc,hocd⟩:=id z;refine h { s with heap:=h' } ⟨I.ok,I.os,I.bare,⟨λb o e n hb hx=>?_,λb o e n hb hx=>?_,I.base.free,λb o e hx=>?_,I.base.tups,I.base.frzs,I.base.tbls⟩,⟨m,hn.sameBut hs (Ne.symm (cne x c hc)),λj y v' e1 e2 e3=>?_⟩,λy c' e=>?_,I.free,I.freeC,λp hp=>?_,tracked ⟨oc,hoc,I.freeC x c hc⟩ hs,by simpa using I.len⟩ ⟨c,hs,.inr hc⟩
  ·exact (hs.2 b (xBd (xAy (xAp e) (I.ok.cab x c hfn hc)))).trans (I.base.keep b o e n hb hx)
  ·obtain⟨sl,e1⟩:=I.base.slot b o e n hb hx;exact⟨sl,(hs.2 b (xBd (xAy (xAp e) (I.ok.cab x c hfn hc)))).trans e1⟩
  ·obtain⟨o',e1⟩:=I.base.there b o e hx;exact⟨o',(hs.2 b (xBd (xAy (xAp e) (I.ok.cab x c hfn hc)))).trans e1⟩
  ·by_cases hj:j=i
   ·subst hj;rw[hi] at e1; cases e1;rw[xFo hiσ] at e2;cases e2;exact⟨u,r,.inr ⟨.inl hk,c,hc,hc'⟩⟩
   ·rw[xGd (Ne.symm hj)] at e2;obtain⟨u',r',q⟩:=hl j y v' e1 e2 e3;refine⟨u',r',?_⟩;rcases q with q | ⟨k,c',e,z'⟩
    ·exact .inl q
    ·refine .inr ⟨k,c',e,z'.sameBut hs ?_⟩;rintro rfl;exact hj (yC hN e1 (I.ok.inj _ _ _ e hc▸hi))
  ·by_cases hcc:c'=c
   ·subst hcc; exact⟨_,hc'⟩
   ·obtain⟨w2,z2⟩:=I.cell y c' e;exact⟨w2,z2.sameBut hs hcc⟩
  ·obtain⟨e,n,ne,nf,d⟩:=I.pin p hp;refine⟨(hs.2 p.1 ?_).trans e,n,ne,nf,d⟩;intro q;rw[q,hoc] at e;have q':oc=p.2:=xBj e;exact d w' (by rw[<- q']; exact hocd)
theorem rD {M:Model}{A:Around}{E:xVP}{i:Nat}{x:Str}{v:V}{u:Value}{Q:Unit->Shared->Prop}(I:Inv X pins σ H s)(hN:X.N.Nodup)(hi:X.N[i]?=some x)(hx:Loc X.env.scope x)(r:cC v u)
  (h:∀ s',Inv X pins (σ.set i (some v)) H s'->Q () s')(hf:X.fn x=true\/X.env.scope.names.lookup x=some .local:=by first | exact .inl rfl | exact .inr rfl | assumption):wpAny M A (storeName X.env x u) Q E s:=
 tZ I hN hi hx r (λs' I' _=>h s' I') hf
theorem Inv.call' {s':Shared}{ch:List Addr}(I:Inv X pins σ H s)(ho:s'.os=s.os)(u:Un (frs X.stack) ch H H' s.heap s'.heap)(hok:HOk X.prog X.w H' s'.heap)(hg:AllBare s'.gens)
  (hch:∀ b∈ch,(b∈X.ex\/X.s₀.heap.objs.size<=b)/\b≠X.env.locals/\(∀ x c,X.env.cells.lookup x=some c->c≠b)/\∀ p∈X.pn++pins,p.1≠b):Inv X pins σ H' s':=by
 obtain⟨h',g',d',t',o'⟩:=s';have e:o'=s.os:=ho;subst e;exact I.call (g':=g') (t':=t') (d':=d') u hok hg hch
end

abbrev XK:=Value->Option Addr->Hp->Prop
abbrev St:=List (Option V)
abbrev VK:=V->Hp->Prop
abbrev TE:=St->Hp->VK->Prop
abbrev TT:=St->Hp->(Bool->Hp->Prop)->Prop
abbrev TA:=St->Hp->(List V->Hp->Prop)->Prop
structure tL where
 nx:St->Hp->Prop
 rt:VK
 bk:St->Hp->Prop:=λ_ _=>False
 ct:St->Hp->Prop:=λ_ _=>False
abbrev TS:=tL->St->Hp->Prop

inductive EP (X:Cx)(pins:xPn)(σ:St)(Q:VK)(u:Value)(s':Shared):Prop
 | mk (v:_)(H':_)(h0_:Inv X pins σ H' s')(h1_:cC v u)(h2_:Q v H')
inductive TP (X:Cx)(pins:xPn)(σ:St)(Q:Bool->Hp->Prop)(b:Bool)(s':Shared):Prop
 | mk (H':_)(h0_:Inv X pins σ H' s')(h1_:Q b H')
inductive AP (X:Cx)(pins:xPn)(σ:St)(Q:List V->Hp->Prop)(us:List Value)(s':Shared):Prop
 | mk (vs:_)(H':_)(h0_:Inv X pins σ H' s')(h1_:bU vs us)(h2_:Q vs H')
def SP (X:Cx)(pins:xPn)(D:tL)(f:Flow)(s':Shared):Prop:=
 match f with
 | .next=>∃ σ' H',Inv X pins σ' H' s'/\D.nx σ' H'
 | .brk=>∃ σ' H',Inv X pins σ' H' s'/\D.bk σ' H'
 | .cont=>∃ σ' H',Inv X pins σ' H' s'/\D.ct σ' H'
 | .ret u=>∃ v σ' H',Inv X pins σ' H' s'/\cC v u/\D.rt v H'

def PE (X:Cx)(e:Expr)(t:TE):Prop:=
 ∀ (pins:xPn) (s:Shared) (σ:St) (H:Hp) (Q:VK),Inv X pins σ H s->t σ H Q->wpAny (model X.prog X.w) X.A (eval e X.env) (EP X pins σ Q) X.xe s
def PT (X:Cx)(e:Expr)(t:TT):Prop:=
 ∀ (pins:xPn) (s:Shared) (σ:St) (H:Hp) (Q:Bool->Hp->Prop),Inv X pins σ H s->t σ H Q->wpAny (model X.prog X.w) X.A (isTrue e X.env (eval e X.env)) (TP X pins σ Q) X.xe s
def PW (X:Cx)(e:Expr)(t:TT):Prop:=
 ∀ (whole:Sem Value) (pins:xPn) (s:Shared) (σ:St) (H:Hp) (Q:Bool->Hp->Prop),Inv X pins σ H s->t σ H Q->wpAny (model X.prog X.w) X.A (isTrue e X.env whole) (TP X pins σ Q) X.xe s
theorem PW.pt {X:Cx}{e:Expr}{t:TT}(h:PW X e t):PT X e t:=h _
def PA (X:Cx)(es:List Expr)(t:TA):Prop:=
 ∀ (pos:Pos) (pins:xPn) (s:Shared) (σ:St) (H:Hp) (Q:List V->Hp->Prop),Inv X pins σ H s->t σ H Q->wpAny (model X.prog X.w) X.A (spliced (backTo pos (starEach es X.env))) (AP X pins σ Q) X.xe s
def PS (X:Cx)(st:Stmt)(t:TS):Prop:=
 ∀ (pins:xPn) (s:Shared) (σ:St) (H:Hp) (D:tL),Inv X pins σ H s->t D σ H->wpAny (model X.prog X.w) X.A (exec st X.env) (SP X pins D) X.xe s
def PSs (X:Cx)(st:List Stmt)(t:TS):Prop:=
 ∀ (pins:xPn) (s:Shared) (σ:St) (H:Hp) (D:tL),Inv X pins σ H s->t D σ H->wpAny (model X.prog X.w) X.A (execs st X.env) (SP X pins D) X.xe s
theorem thn {α:Type}{t:Sem α}{Q Q':α->Shared->Prop}{M:Model}{A:Around}{E:xVP}{s:Shared}(h:wpAny M A t Q E s)(hQ:∀ a s,Q a s->Q' a s):wpAny M A t Q' E s:=xCj h hQ λ_ _ x=>x
section
variable {X:Cx}


inductive qE (i:Nat)(σ:St)(H:Hp)(Q:VK):Prop
 | mk (v:_)(h0_:σ[i]?=some (some v))(h1_:Q v H)
def tC (v:V):TE:=λ_ H Q=>Q v H
theorem vW {i:Nat}{x:Str}{pos:Pos}(hN:X.N[i]?=some x)(hv:Vis X.env.scope x)(hd:(x==("__debug__" : Str))=false:=by decide)(hcd:(x==("__classdict__" : Str))=false:=by decide):PE X (.Name x pos) (qE i):=by
 intro pins s σ H Q I h;obtain⟨v,e,h⟩:=h;obtain⟨m,hn,hl⟩:=I.loc;obtain⟨u,r,l⟩:=hl i x v hN e hv;have fin:EP X pins σ Q u s:=⟨v,H,I,r,h⟩;rcases l with⟨hk,hm⟩ | ⟨hk,c,hc,hcell⟩
 ·exact wpAny_Name (wpAny_loadName_local I.ok.kind hk hn hm fin) hd
 ·rcases hk with hk | hk
  ·exact wpAny_Name (wpAny_loadName_cell I.ok.kind hk hc hcell fin) hd
  ·exact wpAny_Name (wpAny_loadName_free I.ok.kind hk hc hcell fin hcd) hd
theorem aN {i j pos}:PE X (.Constant (.int i) j pos) (tC (.int i)):=λ_ _ _ H _ I h=>wpAny_Constant_int ⟨.int i,H,I.tok _,⟨_,rfl⟩,h⟩
theorem gN {b j pos}:PE X (.Constant (.bool b) j pos) (tC (.bl b)):=λ_ _ _ H _ I h=>Constant_bool ⟨.bl b,H,I,rfl,h⟩
theorem jB {j pos}:PE X (.Constant .none j pos) (tC .non):=λ_ _ _ H _ I h=>Constant_none ⟨.non,H,I,rfl,h⟩
theorem aL {x j pos}:PE X (.Constant (.str x) j pos) (tC (.str x)):=λ_ _ _ H _ I h=>Calls.Constant_str ⟨.str x,H,I.tok _,⟨_,rfl⟩,h⟩

def Gl (X:Cx)(x:Str):Prop:=X.env.kindOf x=some .globalImplicit
theorem fV {E:xVP}{pins:xPn}{s:Shared}{σ:St}{H:Hp}{x:Str}{u:Value}{pos:Pos}{Q:xVP}(I:Inv X pins σ H s)(hg:Gl X x)(hm:X.mg x=some u)(h:Q u s)
  (hd:(x==("__debug__" : Str))=false:=by decide):wpAny (model X.prog X.w) X.A (eval (.Name x pos) X.env) Q E s:=
 Calls.Name_function_global I.ok.kind hg (Calls.loadGlobal_global (by rw[I.ok.glob]; exact I.mod.glob.keeps I.bk) hm h) hd
theorem mV {E:xVP}{pins:xPn}{s:Shared}{σ:St}{H:Hp}{x:Str}{u:Value}{pos:Pos}{Q:xVP}(I:Inv X pins σ H s)(hg:Gl X x)(hm:X.mg x=none)(hv:bootBuiltins x=some u)(h:Q u s)
  (hn:x≠"__name__" := by decide)(hd:(x==("__debug__" : Str))=false:=by decide):wpAny (model X.prog X.w) X.A (eval (.Name x pos) X.env) Q E s:=by
 obtain⟨mb,h1,h2⟩:=I.mod.blt;exact Calls.Name_function_global I.ok.kind hg (Calls.loadGlobal_builtin (by rw[I.ok.glob]; exact I.mod.glob.keeps I.bk) hm (by rw[I.ok.blt]; exact h1.keeps I.bk) ((h2 x hn).trans hv) h) hd
theorem eQ {x:Str}{v:V}{u:Value}{pos:Pos}(hg:Gl X x)(hm:X.mg x=some u)(r:cC v u)(hd:(x==("__debug__" : Str))=false:=by decide):PE X (.Name x pos) (tC v):=
 λ_ _ _ H _ I h=>fV I hg hm ⟨v,H,I,r,h⟩ hd
theorem qS {x:Str}{v:V}{u:Value}{pos:Pos}(hg:Gl X x)(hm:X.mg x=none)(hv:bootBuiltins x=some u)(r:cC v u)(hn:x≠"__name__" := by decide)(hd:(x==("__debug__" : Str))=false:=by decide):PE X (.Name x pos) (tC v):=
 λ_ _ _ H _ I h=>mV I hg hm hv ⟨v,H,I,r,h⟩ hn hd

variable {a b:Expr}{ta tb:TE}{pos:Pos}

def PC (X:Cx)(op:CmpOp)(a b:Expr)(t:TE):Prop:=
 ∀ (pins:xPn) (s:Shared) (σ:St) (H:Hp) (Q:VK),Inv X pins σ H s->t σ H Q ->
  wpAny (model X.prog X.w) X.A (eval a X.env) (λv s₁=>wpAny (model X.prog X.w) X.A (eval b X.env) (λu s₂=>wpAny (model X.prog X.w) X.A (compareOp op v u) (EP X pins σ Q) X.xe s₂) X.xe s₁) X.xe s
def tB (t:TE):TT:=λσ H Q=>t σ H λx H1=>∃ c,x=.bl c/\Q c H1
theorem aIi {op:CmpOp}{t:TE}(h:PC X op a b t)(h1:behindInMarks op b=false:=by first | exact nobehind _ (by decide) (by decide) | rfl):PE X (.Compare a [op] [b] pos) t:=λpins s σ H Q I hw=>wpAny_Compare1 (h pins s σ H Q I hw) h1
theorem oY {op:CmpOp}{t:TE}(h:PC X op a b t)(h1:behindInMarks op b=false:=by first | exact nobehind _ (by decide) (by decide) | rfl):PT X (.Compare a [op] [b] pos) (tB t):=by
 intro pins s σ H Q I hw;refine xIj (thn (h pins s σ H _ I hw) λv s1 h1=>thn h1 λu s2 h2=>thn h2 λc s3 ⟨x,H1,I1,r1,q1⟩=>?_) h1;obtain⟨d,rfl,q⟩:=q1;cases r1;exact xCf ⟨H1,I1,q⟩
theorem iJ {e:Expr}{t:TE}(h:PE X e t)(he:∀ whole,isTrue e X.env whole=(do let v <- whole; standAt e.pos; holding [v] (truthy v)):=by intro _; rfl):PT X e (tB t):=by
 intro pins s σ H Q I hw;refine isTrue_plain (thn (h pins s σ H _ I hw) λv s1 ⟨x,H1,I1,r1,q1⟩=>?_) (he _);obtain⟨d,rfl,q⟩:=q1;cases r1;exact xCf ⟨H1,I1,q⟩

variable {tA tB':TT}{rest:List Expr}
def aUr (t u:TT):TT:=λσ H Q=>t σ H λc H1=>if c=true then u σ H1 Q else Q false H1
def tOr (t u:TT):TT:=λσ H Q=>t σ H λc H1=>if c=true then Q true H1 else u σ H1 Q
def aUm (t:TT):TT:=λσ H Q=>t σ H λc H1=>Q (!c) H1
theorem aMn (ha:PT X a tA):PW X (.BoolOp .And [a] pos) tA:=by
 intro wh pins s σ H Q I h;refine isTrue_and (thn (ha pins s σ H Q I h) λc s1 e=>?_);cases c with
 | true=>exact isTrue_and_nil e
 | false=>exact e
theorem hU (ha:PT X a tA):PW X (.BoolOp .Or [a] pos) tA:=by
 intro wh pins s σ H Q I h;refine isTrue_or (thn (ha pins s σ H Q I h) λc s1 e=>?_);cases c with
 | false=>exact isTrue_or_nil e
 | true=>exact e
theorem aQm (ha:PT X a tA)(hb:PW X (.BoolOp .And (b::rest) pos) tB'):PW X (.BoolOp .And (a::b::rest) pos) (aUr tA tB'):=by
 intro wh pins s σ H Q I h;refine isTrue_and (thn (ha pins s σ H _ I h) λc s1 ⟨H1,I1,q1⟩=>?_);cases c with
 | true=>exact hb wh pins s1 σ H1 Q I1 q1
 | false=>exact⟨H1,I1,q1⟩
theorem iV (ha:PT X a tA)(hb:PW X (.BoolOp .Or (b::rest) pos) tB'):PW X (.BoolOp .Or (a::b::rest) pos) (tOr tA tB'):=by
 intro wh pins s σ H Q I h;refine isTrue_or (thn (ha pins s σ H _ I h) λc s1 ⟨H1,I1,q1⟩=>?_);cases c with
 | true=>exact⟨H1,I1,q1⟩
 | false=>exact hb wh pins s1 σ H1 Q I1 q1
theorem gR (ha:PT X a tA):PT X (.UnaryOp .Not a pos) (aUm tA):=by
 intro pins s σ H Q I h;exact isTrue_not (thn (ha pins s σ H (λc H1=>Q (!c) H1) I h) λc s1 ⟨H',I',q⟩=>⟨H',I',q⟩)
inductive aUg (x:V)(H:Hp)(Q:Bool->Hp->Prop):Prop
 | mk (k:Bool)(h:x=.bl k)(q:Q k H)
def aSc (ta tb:TE):TE:=λσ H Q=>ta σ H λx H1=>aUg x H1 λc H1=>if c=true then tb σ H1 Q else Q (.bl false) H1
def aUl (ta tb:TE):TE:=λσ H Q=>ta σ H λx H1=>∃ c,x=.bl c/\if c=true then Q (.bl true) H1 else tb σ H1 Q
def aRy (ta:TE):TE:=λσ H Q=>ta σ H λx H1=>∃ c,x=.bl c/\Q (.bl (!c)) H1
theorem vX {op}{t:TE}(h:PE X a t):PE X (.BoolOp op [a] pos) t:=λpins s σ H Q I hw=>BoolOp_one (h pins s σ H Q I hw)
theorem vZ (ha:PE X a ta)(hb:PE X (.BoolOp .And (b::rest) pos) tb):PE X (.BoolOp .And (a::b::rest) pos) (aSc ta tb):=by
 intro pins s σ H Q I h;refine BoolOp_and (thn (ha pins s σ H _ I h) λv s1 ⟨x,H1,I1,r1,q1⟩=>?_);obtain⟨c,rfl,q1⟩:=q1;cases r1;refine xCf ?_;cases c with
 | true=>exact hb pins s1 σ H1 Q I1 q1
 | false=>exact⟨.bl false,H1,I1,rfl,q1⟩
theorem aSt (ha:PE X a ta)(hb:PE X (.BoolOp .Or (b::rest) pos) tb):PE X (.BoolOp .Or (a::b::rest) pos) (aUl ta tb):=by
 intro pins s σ H Q I h;refine BoolOp_or (thn (ha pins s σ H _ I h) λv s1 ⟨x,H1,I1,r1,q1⟩=>?_);obtain⟨c,rfl,q1⟩:=q1;cases r1;refine xCf ?_;cases c with
 | false=>exact hb pins s1 σ H1 Q I1 q1
 | true=>exact⟨.bl true,H1,I1,rfl,q1⟩
theorem aQp (ha:PE X a ta):PE X (.UnaryOp .Not a pos) (aRy ta):=by
 intro pins s σ H Q I h;refine UnaryOp_ (thn (ha pins s σ H _ I h) λv s1 ⟨x,H1,I1,r1,q1⟩=>?_);obtain⟨c,rfl,q1⟩:=q1;cases r1;exact not_of (xCf ⟨.bl (!c),H1,I1,rfl,q1⟩)
def tIf (t:TT)(ta tb:TE):TE:=λσ H Q=>t σ H λc H1=>if c=true then ta σ H1 Q else tb σ H1 Q
theorem xV {c:Expr}(hc:PT X c tA)(ha:PE X a ta)(hb:PE X b tb):PE X (.IfExp c a b pos) (tIf tA ta tb):=by
 intro pins s σ H Q I h;refine wpAny_IfExp (thn (hc pins s σ H _ I h) λd s1 ⟨H1,I1,q1⟩=>?_);cases d with
 | true=>exact ha pins s1 σ H1 Q I1 q1
 | false=>exact hb pins s1 σ H1 Q I1 q1
end

def SqL (K:xAb)(H:Hp)(a:Addr)(xs:List V):Prop:=
 Rd H a (.lst xs) \/
  ∃ (o:Obj) (its:Array Value) (n:Nat),K.lookup a=some o/\o.cls=.type "list" /\ o.dict=none/\o.data=.seq its n/\its.size<=sizeLine/\bU xs its.toList
def SqT (K:xAb)(H:Hp)(a:Addr)(xs:List V):Prop:=
 Rd H a (.tup xs) \/
  ∃ (o:Obj) (its:Array Value) (n:Nat),K.lookup a=some o/\o.cls=.type "tuple" /\ o.data=.seq its n/\its.size<=sizeLine/\bU xs its.toList
def aWx:Value->Option V
 | .none=>some .non
 | .bool b=>some (.bl b)
 | .int i _=>some (.int i)
 | .str x _=>some (.str x)
 | .bytes b _=>some (.byt b)
 | .float b _=>some (.flt b)
 | .ref a=>some (.ref a)
 | .type n=>some (.ty n)
 | _=>none
theorem cC.abs {x:V}{u:Value}(r:cC x u):aWx u=some x:=by
 cases x with
 | non=>cases r; rfl
 | bl _=>cases r; rfl
 | int _=>obtain⟨t,rfl⟩:=r; rfl
 | str _=>obtain⟨t,rfl⟩:=r; rfl
 | byt _=>obtain⟨t,rfl⟩:=r; rfl
 | flt _=>obtain⟨t,rfl⟩:=r; rfl
 | ref _=>cases r; rfl
 | ty _=>cases r; rfl
theorem cC.inj {x y:V}{u:Value}(r:cC x u)(q:cC y u):x=y:=xBj (r.abs.symm.trans q.abs)
theorem bU.inj:∀ {xs ys:List V}{us:List Value},bU xs us->bU ys us->xs=ys
 | _,_,_,.nil,.nil=>rfl
 | _,_,_,.cons r t,.cons r' t'=>by rw[r.inj r',bU.inj t t']
section
variable {X:Cx}{pins:xPn}{σ:St}{H:Hp}{s:Shared}{a:Addr}{xs ys:List V}
theorem SqL.of {K:xAb}(h:H a=some (.lst xs)):SqL K H a xs:=.inl (.inl h)
theorem SqT.of {K:xAb}(h:H a=some (.tup xs)):SqT K H a xs:=.inl (.inl h)
theorem Inv.list (I:Inv X pins σ H s)(h:SqL X.K H a xs):∃ its:List Value,bU xs its/\PlainL s.heap a its.toArray/\xs.length<=sizeLine:=by
 rcases h with h | ⟨o,its,n,hk,hc,hd,hs,hz,r⟩
 ·obtain⟨z,its,n,r,e⟩:=h.ok I.hok;exact⟨its,r,⟨_,n,e,rfl,rfl,rfl⟩,z⟩
 ·refine⟨its.toList,r,⟨o,n,I.kIn a o hk,hc,hd,by simpa using hs⟩,?_⟩;have e:=r.length;simp only[Array.length_toList] at e;omega
theorem Inv.tuple (I:Inv X pins σ H s)(h:SqT X.K H a xs):∃ its:List Value,bU xs its/\IsTup s.heap a its.toArray/\xs.length<=sizeLine:=by
 rcases h with h | ⟨o,its,n,hk,hc,hs,hz,r⟩
 ·obtain⟨z,its,r,p⟩:=h.ok I.hok;exact⟨its,r,p,z⟩
 ·refine⟨its.toList,r,⟨o,I.kIn a o hk,hc,n,by simpa using hs⟩,?_⟩;have e:=r.length;simp only[Array.length_toList] at e;omega
theorem Inv.list_inj (I:Inv X pins σ H s)(h:SqL X.K H a xs)(h':SqL X.K H a ys):xs=ys:=by
 obtain⟨its,r,⟨o,n,e,_,_,d⟩,_⟩:=I.list h;obtain⟨its',r',⟨o',n',e',_,_,d'⟩,_⟩:=I.list h';rw[e] at e'; cases e';rw[d] at d';injection d' with d1 _
 have:its=its':=by simpa using congrArg Array.toList d1
 subst this;exact r.inj r'
theorem Inv.tuple_inj (I:Inv X pins σ H s)(h:SqT X.K H a xs)(h':SqT X.K H a ys):xs=ys:=by
 obtain⟨its,r,⟨o,e,_,n,d⟩,_⟩:=I.tuple h;obtain⟨its',r',⟨o',e',_,n',d'⟩,_⟩:=I.tuple h';rw[e] at e'; cases e';rw[d] at d';injection d' with d1 _
 have:its=its':=by simpa using congrArg Array.toList d1
 subst this;exact r.inj r'
end

abbrev Cx.wish (X:Cx)(E:xVP):Cx:={ X with xe:=E }
abbrev Cx.nox (X:Cx):Cx:=X.wish λ_ _=>False
theorem Cx.Ok.wish {X:Cx}(ok:X.Ok)(E:xVP):(X.wish E).Ok:=
 ⟨ok.mod,ok.kind,ok.glob,ok.blt,ok.above,ok.inj,ok.has,ok.cab,ok.hd,ok.frames,ok.stk,ok.exf,ok.bs,ok.bsz,ok.noex,ok.exfs,ok.funs,ok.frf⟩
theorem Cx.Ok.unwish {X:Cx}{E:xVP}(ok:(X.wish E).Ok):X.Ok:=
 ⟨ok.mod,ok.kind,ok.glob,ok.blt,ok.above,ok.inj,ok.has,ok.cab,ok.hd,ok.frames,ok.stk,ok.exf,ok.bs,ok.bsz,ok.noex,ok.exfs,ok.funs,ok.frf⟩
section
variable {X:Cx}{pins:xPn}{σ:St}{H:Hp}{s:Shared}{E:xVP}
theorem Inv.wish (I:Inv X pins σ H s)(E:xVP):Inv (X.wish E) pins σ H s:=⟨I.ok.wish E,I.os,I.bare,I.base,I.loc,I.cell,I.free,I.freeC,I.pin,I.hok,I.len⟩
theorem Inv.unwish (I:Inv (X.wish E) pins σ H s):Inv X pins σ H s:=⟨I.ok.unwish,I.os,I.bare,I.base,I.loc,I.cell,I.free,I.freeC,I.pin,I.hok,I.len⟩
theorem SP.unwish {D:tL}{f:Flow}{s':Shared}(h:SP (X.wish E) pins D f s'):SP X pins D f s':=by
 cases f with
 | next=>obtain⟨σ',H',I,q⟩:=h; exact⟨σ',H',I.unwish,q⟩
 | brk=>obtain⟨σ',H',I,q⟩:=h; exact⟨σ',H',I.unwish,q⟩
 | cont=>obtain⟨σ',H',I,q⟩:=h; exact⟨σ',H',I.unwish,q⟩
 | ret u=>obtain⟨v,σ',H',I,r,q⟩:=h; exact⟨v,σ',H',I.unwish,r,q⟩
theorem PSs.nox {st:List Stmt}{t:TS}(h:PSs X.nox st t):PSs X st t:=λpins s σ H D I hw=>
 xCj (h pins s σ H D (I.wish _) hw) (λ_ _ q=>q.unwish) λ_ _ z=>False.elim z
end

section
variable {X:Cx}{st:Stmt}{rest:List Stmt}{t u:TS}{e:Expr}{te:TE}{pos:Pos}
def aCc:TS:=λD σ H=>D.nx σ H
def wY (t u:TS):TS:=λD σ H=>t { D with nx:=u D } σ H
theorem aZ:PSs X [] aCc:=λ_ _ σ H _ I h=>xEn ⟨σ,H,I,h⟩
theorem aJ (h1:PS X st t)(h2:PSs X rest u):PSs X (st::rest) (wY t u):=by
 intro pins s σ H D I h;refine xFj (thn (h1 pins s σ H { D with nx:=u D } I h) λf s1 q=>?_);cases f with
 | next=>
  obtain⟨σ',H',I',q⟩:=q;exact h2 pins s1 σ' H' D I' q
 | ret v=>exact q
 | brk=>exact q
 | cont=>exact q
theorem aK (h1:PS X st t):PSs X [st] t:=by
 intro pins s σ H D I h;refine xFj (thn (h1 pins s σ H D I h) λf s1 q=>?_);cases f with
 | next=>exact xEn q
 | ret v=>exact q
 | brk=>exact q
 | cont=>exact q
theorem Inv.quiet {pins:xPn}{σ:St}{H:Hp}{s:Shared}(I:Inv X pins σ H s):interactive X.env=false:=by simp[interactive,I.ok.kind]
def aCe (te:TE):TS:=λD σ H=>te σ H λ_ H1=>D.nx σ H1
theorem cX (he:PE X e te)(hs:swapsWith e none pos.line X.env=pure false:=by rfl):PS X (.Expr e pos) (aCe te):=by
 intro pins s σ H D I h;exact wpAny_Expr_any (thn (he pins s σ H _ I h) λv s1 ⟨x,H1,I1,r1,q1⟩=>⟨σ,H1,I1,q1⟩) I.quiet hs
def aUk (te:TE):TS:=λD σ H=>te σ H D.rt
theorem aQ (he:PE X e te):PS X (.Return (some e) pos) (aUk te):=by
 intro pins s σ H D I h;exact wpAny_Return_some (thn (he pins s σ H _ I h) λv s1 ⟨x,H1,I1,r1,q1⟩=>⟨x,σ,H1,I1,r1,q1⟩)
def aUn (c:TT)(t u:TS):TS:=λD σ H=>c σ H λb H1=>if b=true then t D σ H1 else u D σ H1
theorem cM {c:Expr}{a b:List Stmt}{tc:TT}(hc:PT X c tc)(ha:PSs X a t)(hb:PSs X b u):PS X (.If c a b pos) (aUn tc t u):=by
 intro pins s σ H D I h;refine wpAny_If (thn (hc pins s σ H _ I h) λd s1 ⟨H1,I1,q1⟩=>?_);cases d with
 | true=>exact ha pins s1 σ H1 D I1 q1
 | false=>exact hb pins s1 σ H1 D I1 q1
end

abbrev TG:=V->St->Hp->(St->Hp->Prop)->Prop
abbrev TGs:=List V->St->Hp->(St->Hp->Prop)->Prop
def PG (X:Cx)(target:Expr)(t:TG):Prop:=
 ∀ (pins:xPn) (s:Shared) (σ:St) (H:Hp) (v:V) (u:Value) (Q:St->Hp->Prop),Inv X pins σ H s->cC v u->t v σ H Q ->
  wpAny (model X.prog X.w) X.A (assign target X.env u) (λ_ s'=>∃ σ' H',Inv X pins σ' H' s'/\Q σ' H') X.xe s
def PGs (X:Cx)(ts:List Expr)(t:TGs):Prop:=
 ∀ (pins:xPn) (s:Shared) (σ:St) (H:Hp) (vs:List V) (us:List Value) (Q:St->Hp->Prop),Inv X pins σ H s->bU vs us->t vs σ H Q ->
  wpAny (model X.prog X.w) X.A (assignInOrder ((assignEach ts X.env).map (·.2)) us) (λ_ s'=>∃ σ' H',Inv X pins σ' H' s'/\Q σ' H') X.xe s
section
variable {X:Cx}{pos:Pos}
def jI (i:Nat):TG:=λv σ H Q=>Q (σ.set i (some v)) H
theorem aW {i:Nat}{x:Str}(hN:X.N.Nodup)(hi:X.N[i]?=some x)(hx:Loc X.env.scope x)(hf:X.fn x=true\/X.env.scope.names.lookup x=some .local:=by first | exact .inl rfl | exact .inr rfl | assumption):PG X (.Name x pos) (jI i):=by
 intro pins s σ H v u Q I r h;exact wpAny_assign_Name (rD I hN hi hx r (λs' I'=>⟨_,H,I',h⟩) hf)
def aKu:TGs:=λvs σ H Q=>vs=[]/\Q σ H
inductive mC (t:TG)(u:TGs)(vs:List V)(σ:St)(H:Hp)(Q:St->Hp->Prop):Prop
 | mk (v:V)(r:List V)(h1:vs=v::r)(q:t v σ H λσ' H'=>u r σ' H' Q)

theorem gH:PGs X [] aKu:=by
 intro pins s σ H vs us Q I r h;obtain⟨e,h⟩:=h;subst e;cases r;exact assignInOrder_nil ⟨σ,H,I,h⟩
theorem cB {e:Expr}{es:List Expr}{t:TG}{u:TGs}(h1:PG X e t)(h2:PGs X es u)
  (hs:(assignEach (e::es) X.env).map (·.2)=assign e X.env::(assignEach es X.env).map (·.2):=by rfl):PGs X (e::es) (mC t u):=by
 intro pins s σ H vs us Q I r h;obtain⟨v,vr,e1,h⟩:=h;subst e1;cases r with
 | cons r rr=>
  rw[hs];refine assignInOrder_cons (thn (h1 pins s σ H _ _ _ I r h) λ_ s1 ⟨σ1,H1,I1,q1⟩=>?_);exact h2 pins s1 σ1 H1 _ _ Q I1 rr q1
inductive aKt (K:xAb)(n:Nat)(t:TGs)(v:V)(σ:St)(H:Hp)(Q:St->Hp->Prop):Prop
 | mk (a:Addr)(xs:List V)(h1:v=.ref a)(h2:SqT K H a xs)(h3:xs.length=n)(q:t xs σ H Q)

theorem iK {es:List Expr}{k:Nat}{t:TGs}{n:Nat}(hc:X.calm=true)(h:PGs X es t)
  (hn:(assignEach es X.env).length=n:=by rfl)(hst:(assignEach es X.env).findIdx? (·.1)=none:=by rfl):PG X (.Tuple es k pos) (aKt X.K n t):=by
 intro pins s σ H v u Q I r hw;obtain⟨a,xs,e1,hq,hl,hw⟩:=hw;subst e1;cases r;obtain⟨its,rv,ht,hz⟩:=I.tuple hq;refine assign_Tuple_tuple (I.ok.hd hc) ht (by simp[hn,<- hl,rv.length]) hst λh' hx=>?_;have I1:Inv X pins σ H { s with heap:=h' }:=I.kept (t':=s.toks) λb o e=>hx b o (xBd (xAp e)) e;exact h pins _ σ H xs _ Q I1 (by simpa using rv) hw
def aLz (te:TE)(g:TG):TS:=λD σ H=>te σ H λx H1=>g x σ H1 D.nx
theorem aIc {tg e:Expr}{te:TE}{g:TG}(he:PE X e te)(hg:PG X tg g)(hs:swapsWithSole [tg] e pos.line X.env=pure false:=by rfl)(hw:swappedStores [tg] e X.env=pure none:=by rfl)
  (h1:(assignEach [tg] X.env).map (·.2)=[assign tg X.env]:=by rfl):PS X (.Assign [tg] e pos) (aLz te g):=by
 intro pins s σ H D I h;refine wpAny_Assign_stores (thn (he pins s σ H _ I h) λv s1 ⟨x,H1,I1,r1,q1⟩=>?_) hs hw;rw[h1];exact thn (hg pins s1 σ H1 x v _ I1 r1 q1) λ_ s2 q=>q
theorem bO {i:Nat}{x:Str}{e:Expr}{te:TE}{pos':Pos}(hN:X.N.Nodup)(hi:X.N[i]?=some x)(hx:Loc X.env.scope x)(he:PE X e te)(hs:swapsWith e (some (.Name x pos')) pos.line X.env=pure false:=by rfl)(hf:X.fn x=true\/X.env.scope.names.lookup x=some .local:=by first | exact .inl rfl | exact .inr rfl | assumption) :
  PS X (.Assign [.Name x pos'] e pos) (aLz te (jI i)):=by
 intro pins s σ H D I h;refine wpAny_Assign_Name (thn (he pins s σ H _ I h) λv s1 ⟨y,H1,I1,r1,q1⟩=>?_) hs;exact rD I1 hN hi hx r1 (λs2 I2=>⟨_,H1,I2,q1⟩) hf
end

section
variable {X:Cx}{pos:Pos}
def aPp (c:TT)(tb:TS):TS:=λD σ H=>∃ W:Nat->St->Hp->Prop,(∃ m,W m σ H)/\∀ m σ H,W m σ H ->
 c σ H λb H1=>if b=true then ∃ N:St->Hp->Prop,(∀ σ' H',N σ' H'->∃ m',m'<m/\W m' σ' H')/\tb { D with nx:=N,ct:=N,bk:=D.nx } σ H1 else D.nx σ H1
theorem aIb {c:Expr}{body:List Stmt}{tc:TT}{tb:TS}(hp:PassesOwn (model X.prog X.w) X.A X.env X.xe)(hc:PT X c tc)(hb:PSs X body tb):PS X (.While c body [] pos) (aPp tc tb):=by
 intro pins s σ H D I h;obtain⟨W,⟨m0,w0⟩,turn⟩:=h;refine wpAny_While (codeAny_whileLoop (λn s'=>∃ σ' H',Inv X pins σ' H' s'/\W n σ' H') ?_ m0 ⟨σ,H,I,w0⟩);rintro n s1 ⟨σ1,H1,I1,w1⟩;refine xDn hp (thn (hc pins s1 σ1 H1 _ I1 (turn n σ1 H1 w1)) λb s2 ⟨H2,I2,q2⟩=>?_);cases b with
 | true=>
  obtain⟨N,hN,q2⟩:=q2;rw[xAz rfl];refine xDn hp (thn (hb pins s2 σ1 H2 _ I2 q2) λf s3 q3=>?_);cases f with
  | next=>
   obtain⟨σ3,H3,I3,n3⟩:=q3;obtain⟨m',hm,w3⟩:=hN σ3 H3 n3;exact⟨m',hm,σ3,H3,I3,w3⟩
  | cont=>
   obtain⟨σ3,H3,I3,n3⟩:=q3;obtain⟨m',hm,w3⟩:=hN σ3 H3 n3;exact⟨m',hm,σ3,H3,I3,w3⟩
  | brk=>exact q3
  | ret v=>exact q3
 | false=>
  rw[xAw xAr];exact xEn ⟨σ1,H2,I2,q2⟩
end

structure It where
 go:Nat->Hp->Prop
 yld:Nat->Hp->V->Hp->Prop
 stop:Nat->Hp->Prop
def lN (X:Cx)(pins:xPn)(H:Hp)(b:Addr):Prop:=
 H b=none/\b≠X.env.locals/\b∉X.fs/\(b∈X.ex\/X.s₀.heap.objs.size<=b)/\(∀ x c,X.env.cells.lookup x=some c->c≠b)/\∀ p∈X.pn++pins,p.1≠b
theorem Inv.fpOk {X:Cx}{pins:xPn}{σ:St}{H H':Hp}{s:Shared}{b:Addr}(I:Inv X pins σ H s)(hb:s.heap.objs.size<=b)(hn:H' b=none):lN X pins H' b:=by
 refine⟨hn,xFs (xAy I.lt hb),I.nofs hb,.inr (xAs I.sz hb),λx c e z=>?_,λp hp z=>?_⟩
 ·obtain⟨v,q⟩:=I.cell x c e;exact xAu (xAy q.lt (by rw[z]; exact hb)) (xDi _)
 ·exact xAu (xAy (xAp (I.pin p hp).1) (by rw[z]; exact hb)) (xDi _)
structure zC (P:Program)(w:World)(K:xAb)(tg:Expr)(J:It)(fp:List Addr)(it:Addr)(tn:Nat->Heap->Prop):Prop where
 mem:it∈fp
 obj:∀ i h,tn i h->∀ b∈fp,∃ o,h.get? b=some o/\∀ v,o.data≠.cell v
 keep:∀ i h h',tn i h->(∀ b∈fp,∀ o,h.get? b=some o->h'.get? b=some o)->tn i h'
 item:∀ (X:Cx),X.prog=P->X.w=w->X.K=K->X.calm=true->∀ (i:Nat) (pins:xPn) (s:Shared) (σ:St) (H:Hp) (E:xVP),Inv X pins σ H s->(∀ b∈fp,lN X pins H b)->tn i s.heap->J.go i H ->
  wpAny (model P w) X.A (pyNext (.ref it)) (λr s1=>∃ u,r=some u /\
   wpAny (model P w) X.A (letOwnedTupleGo tg (.ref it) u) (λ_ s2=>∃ x H',Inv X pins σ H' s2/\cC x u/\J.yld i H x H'/\tn (i+1) s2.heap/\∀ b∈fp,H' b=none) E s1) E s
 done:∀ (X:Cx),X.prog=P->X.w=w->X.K=K->X.calm=true->∀ (i:Nat) (pins:xPn) (s:Shared) (σ:St) (H:Hp) (E:xVP),Inv X pins σ H s->(∀ b∈fp,lN X pins H b)->tn i s.heap->J.stop i H ->
  wpAny (model P w) X.A (pyNext (.ref it)) (λr s1=>r=none/\Inv X pins σ H s1) E s
 self:∀ (A:Around) (i:Nat) (s:Shared) (Q:xVP) (E:xVP),tn i s.heap->Q (.ref it) s->wpAny (model P w) A (pyIter (.ref it)) Q E s
abbrev TI:=St->Hp->(It->Hp->Prop)->Prop
def PIE (X:Cx)(pins:xPn)(σ:St)(tg:Expr)(R:It->Hp->Prop)(itv:Value)(s2:Shared):Prop:=
 ∃ (it:Addr) (fp:List Addr) (tn:Nat->Heap->Prop) (J:It) (H':Hp),itv=.ref it/\Inv X pins σ H' s2/\zC X.prog X.w X.K tg J fp it tn/\tn 0 s2.heap/\(∀ b∈fp,lN X pins H' b)/\R J H'
def PI (X:Cx)(tg iter:Expr)(wi:TI):Prop:=
 ∀ (pins:xPn) (s:Shared) (σ:St) (H:Hp) (R:It->Hp->Prop),Inv X pins σ H s->wi σ H R ->
  wpAny (model X.prog X.w) X.A (eval iter X.env) (λv s1=>wpAny (model X.prog X.w) X.A (pyIter v) (PIE X pins σ tg R) X.xe s1) X.xe s

theorem aDm {M:Model}{A:Around}{E:xVP}{s:Shared}{tg:Expr}{it:Addr}{u:Value}{o:Obj}{n:String}{vs:Array Value}{Q:Unit->Shared->Prop}(ho:s.heap.get? it=some o)(hc:o.cls=.type n)(hd:o.data=.fields vs)
  (hn:["enumerate","zip","dict_itemiterator","dict_reverseitemiterator","odict_iterator","itertools.zip_longest","itertools.pairwise"].contains n=false)(hQ:Q () s):wpAny M A (letOwnedTupleGo tg (.ref it) u) Q E s:=by
 unfold letOwnedTupleGo
 cases tg <;> first
  | exact xAl hQ
  | (cases u <;> first
    | exact xAl hQ
    | (refine xAc (wpAny_load ho ?_)
       rw[hc,hd];show wpAny M A (if (["enumerate","zip","dict_itemiterator","dict_reverseitemiterator","odict_iterator","itertools.zip_longest","itertools.pairwise"].contains n&&vs[0]?==some (rawInt _))=true then _ else _) Q E s
       rw[xAw (by intro h; rw[hn,xEz] at h; cases h)];exact xAl hQ))

def Itl (K:xAb)(a:Addr):It:=
 ⟨λi H=>∃ xs x,SqL K H a xs/\xs[i]?=some x,λi H x H'=>H'=H/\∀ xs,SqL K H a xs->xs[i]?=some x,λi H=>∃ xs,SqL K H a xs/\xs.length<=i⟩
def Itr (lo:Int)(n:Nat):It:=⟨λi _=>i<n,λi H x H'=>H'=H/\x=.int (lo+i),λi _=>n<=i⟩
theorem aEb {P:Program}{w:World}{K:xAb}{tg:Expr}(a it:Addr):zC P w K tg (Itl K a) [it] it (λi h=>h.IsListIter it a i) where
 mem:=by simp
 obj:=λi h st b hb=>by
  have e:b=it:=by simpa using hb
  subst e;obtain⟨o,e,c,d⟩:=st;exact⟨o,e,λv z=>by rw[d] at z; cases z⟩
 keep:=λi h h' st k=>st.at λo e=>k it (by simp) o e
 item:=by
  intro X hP hw hK hc i pins s σ H E I hf st hg;subst hP hw hK;obtain⟨xs,x,hq,hx⟩:=hg;obtain⟨its,rv,p,hz⟩:=I.list hq;obtain⟨u,hu,ru⟩:=rv.get hx;obtain⟨f0,f1,f2,f3,f4,f5⟩:=hf it (by simp);refine xIa st p.isList (x:=u) (by simpa using hu) λh' st' sb=>?_;have I1:Inv X pins σ H { s with heap:=h' }:=I.turned (t':=s.toks) (λb o hb e=>(sb.2 b hb).trans e) f0 f1 f3 f4 f5;obtain⟨o,e,c,d⟩:=id st';exact⟨u,rfl,aDm (s:={ s with heap:=h' }) e c d (by decide) ⟨x,H,I1,ru,⟨rfl,λys hy=>by rw[I.list_inj hy hq]; exact hx⟩,st',λb hb=>(hf b hb).1⟩⟩
 done:=by
  intro X hP hw hK hc i pins s σ H E I hf st hg;subst hP hw hK;obtain⟨xs,hq,hx⟩:=hg;obtain⟨its,rv,p,hz⟩:=I.list hq;obtain⟨f0,f1,f2,f3,f4,f5⟩:=hf it (by simp);have hl:=rv.length;exact xIi (I.ok.hd hc) st p.isList (by simp; omega) λh' eb=>⟨rfl,I.turned (t':=s.toks) (λb o hb e=>eb b o hb e) f0 f1 f3 f4 f5⟩
 self:=λ_ _ _ _ _ st h=>wpAny_pyIter_listiter st h
theorem zK {P:Program}{w:World}{K:xAb}{tg:Expr}(it:Addr)(lo:Int)(n:Nat):zC P w K tg (Itr lo n) [it] it (λi h=>IsRangeIter h it (lo+(i:Nat)*1) ((n:Int)-(i:Nat)) 1) where
 mem:=by simp
 obj:=λi h st b hb=>by
  have e:b=it:=by simpa using hb
  subst e
  exact⟨_,st,λv z=>by
   have z':Data.fields _=Data.cell v:=z;cases z'⟩
 keep:=λi h h' st k=>k it (by simp) _ st
 item:=by
  intro X hP hw hK hc i pins s σ H E I hf st hg;subst hP hw hK;obtain⟨f0,f1,f2,f3,f4,f5⟩:=hf it (by simp);have W:=Walks.range (prog:=X.prog) (w:=X.w) (I.ok.hd hc) it lo 1 n;refine W.item i s _ _ hg st λv h' tk hv st' kk=>?_;obtain⟨t,rfl⟩:=hv;have I1:Inv X pins σ H { s with heap:=h',toks:=tk }:=I.turned (λb o hb e=>kk b o (by simpa using hb) e) f0 f1 f3 f4 f5;refine⟨_,rfl,aDm (s:={ s with heap:=h',toks:=tk }) (n:="range_iterator") st' rfl rfl (by decide) ⟨.int (lo+i),H,I1,⟨t,?_⟩,⟨rfl,rfl⟩,st',λb hb=>(hf b hb).1⟩⟩;rw[Int.mul_one]
 done:=by
  intro X hP hw hK hc i pins s σ H E I hf st hg;subst hP hw hK;obtain⟨f0,f1,f2,f3,f4,f5⟩:=hf it (by simp);exact wpAny_pyNext_range_end (I.ok.hd hc) st (by have:n<=i:=hg; omega) λh' eb=>⟨rfl,I.turned (t':=s.toks) (λb o hb e=>eb b o hb e) f0 f1 f3 f4 f5⟩
 self:=λ_ _ _ _ _ st h=>wpAny_pyIter_rangeiter st h
section
variable {X:Cx}{tg:Expr}
inductive aXd (K:xAb)(x:V)(H1:Hp)(R:It->Hp->Prop):Prop
 | mk (a:Addr)(h1:x=.ref a)(h2:∃ xs,SqL K H1 a xs)(r:R (Itl K a) H1)
def aTe (K:xAb)(tl:TE):TI:=λσ H R=>tl σ H λx H1=>aXd K x H1 R
theorem dC {l:Expr}{tl:TE}(hl:PE X l tl):PI X tg l (aTe X.K tl):=by
 intro pins s σ H R I h;refine thn (hl pins s σ H _ I h) λv s1 ⟨x,H1,I1,r1,q1⟩=>?_;obtain⟨a,e,⟨xs,hq⟩,q⟩:=q1;subst e;cases r1;obtain⟨its,rv,p,hz⟩:=I1.list hq;refine xFb p.isList ?_;refine⟨s1.heap.objs.size,[s1.heap.objs.size],_,_,H1,rfl,I1.kept (t':=s1.toks) λb o e=>xAf _ e,aEb a _,⟨_,xAq _ rfl,rfl,rfl⟩,λb hb=>?_,q⟩;have e:b=s1.heap.objs.size:=by simpa using hb
 subst e;exact I1.fpOk (xAh _) (I1.hok.fresh (xAh _))
theorem aHy {pins:xPn}{σ:St}{H:Hp}{s:Shared}{R:It->Hp->Prop}{E:xVP}{lo hi:Int}{t u v:Tok}{tk:Nat}(I:Inv X pins σ H s)(h1:-(2^62)<=lo)(h2:lo<2^62)(h3:-(2^62)<=hi)(h4:hi<2^62)
  (q:R (Itr lo (hi-lo).toNat) H):wpAny (model X.prog X.w) X.A (pyIter (.ref s.heap.objs.size)) (PIE X pins σ tg R) E { s with heap:=s.heap.push { cls:=.type "range",data:=.fields #[.int lo t,.int hi u,.int 1 v] },toks:=tk }:=by
 refine wpAny_pyIter_range (IsRange.new ..) (small_one h1 h2 h3 h4) ?_;have I1:Inv X pins σ H { s with heap:=s.heap.push { cls:=.type "range",data:=.fields #[.int lo t,.int hi u,.int 1 v] },toks:=tk }:=I.kept λb o e=>xAf _ e
 refine⟨(s.heap.push { cls:=.type "range",data:=.fields #[.int lo t,.int hi u,.int 1 v] }).objs.size,[(s.heap.push { cls:=.type "range",data:=.fields #[.int lo t,.int hi u,.int 1 v] }).objs.size],_,_,H,rfl,
  I1.kept (t':=tk) λb o e=>xAf _ e,zK _ lo (hi-lo).toNat,?_,λb hb=>?_,q⟩
 ·have e1:lo+((0:Nat):Int)*1=lo:=by simp
  have e2:(((hi-lo).toNat:Nat):Int)-((0:Nat):Int)=Builtin.Range.rangeSize lo hi 1:=by rw[rangeSize_one]; split <;> omega
  show IsRangeIter _ _ (lo+((0:Nat):Int)*1) ((((hi-lo).toNat:Nat):Int)-((0:Nat):Int)) 1;rw[e1,e2];exact xAq _ rfl
 ·have e:b=(s.heap.push { cls:=.type "range",data:=.fields #[.int lo t,.int hi u,.int 1 v] }).objs.size:=by simpa using hb
  subst e;exact I1.fpOk (xAh _) (I1.hok.fresh (xAh _))
inductive aXc (vs:List V)(H1:Hp)(R:It->Hp->Prop):Prop
 | mk (j:Int)(h1:vs=[.int j])(h2:-(2^62)<=j)(h3:j<2^62)(r:R (Itr 0 j.toNat) H1)
def aTd (ta:TA):TI:=λσ H R=>ta σ H λvs H1=>aXc vs H1 R
theorem lP {a:Expr}{ta:TA}{p pos:Pos}(hg:Gl X "range")(hm:X.mg "range" = none)(ha:PA X [a] ta)(hs:starEach [a] X.env=[(false,eval a X.env)]:=by rfl):PI X tg (.Call (.Name "range" p) [a] [] pos) (aTd ta):=by
 intro pins s σ H R I h;refine Call_ (mV I hg hm boot_range (xDp (thn (ha pos pins s σ H _ I h) λus s1 ⟨vs,H1,I1,r1,q1⟩=>?_) hs rfl));obtain⟨j,e,q1,q2,q⟩:=q1;subst e;cases r1 with
 | cons r rr=>
  cases rr;obtain⟨t,rfl⟩:=r;exact call_range_1 (aHy I1 (by omega) (by omega) q1 q2 (by simpa using q))

def aUo (wi:TI)(g:TG)(tb:TS):TS:=λD σ H=>wi σ H λJ H1=>∃ W:Nat->Nat->St->Hp->Prop,(∃ m,W 0 m σ H1)/\∀ i m σ H,W i m σ H ->
 (J.stop i H/\D.nx σ H)\/(J.go i H/\∃ N:St->Hp->Prop,(∀ σ' H',N σ' H'->∃ m',m'<m/\W (i+1) m' σ' H')/\∀ x H',J.yld i H x H'->g x σ H' λσ2 H2=>tb { D with nx:=N,ct:=N,bk:=D.nx } σ2 H2)
def sD (fp:List Addr)(h:Heap):List (Addr×Obj):=fp.filterMap λb=>(h.get? b).map λo=>(b,o)
theorem jW {fp:List Addr}{h:Heap}{b:Addr}{o:Obj}(hb:b∈fp)(e:h.get? b=some o):(b,o)∈sD fp h:=xDa.mpr ⟨b,hb,by rw[e]; rfl⟩
theorem aFh {fp:List Addr}{h:Heap}{p:Addr×Obj}(hp:p∈sD fp h):p.1∈fp/\h.get? p.1=some p.2:=by
 obtain⟨b,hb,e⟩:=xDa.mp hp;cases q:h.get? b with
 | none=>rw[q] at e; cases e
 | some o=>
  rw[q] at e;have e':(b,o)=p:=xBj e;subst e';exact⟨hb,q⟩
theorem Inv.pinned {pins:xPn}{σ:St}{H:Hp}{s:Shared}{fp:List Addr}(I:Inv X pins σ H s)(hf:∀ b∈fp,lN X pins H b)(ho:∀ b∈fp,∃ o,s.heap.get? b=some o/\∀ v,o.data≠.cell v):Inv X (pins++sD fp s.heap) σ H s:=
 I.pins_of λp hp=>(xBy.mp hp).elim (λz=>I.pin p (xBp _ z)) λz=>by
  obtain⟨hb,e⟩:=aFh z;obtain⟨f0,f1,f2,_⟩:=hf p.1 hb;obtain⟨o,e',d⟩:=ho p.1 hb;rw[e] at e'; cases e';exact⟨e,f0,f1,f2,d⟩
theorem Inv.unpinned {pins pl:xPn}{σ:St}{H:Hp}{s:Shared}(I:Inv X (pins++pl) σ H s):Inv X pins σ H s:=I.pins_of λp hp=>I.pin p (xBp _ (xDf _ hp))
theorem eV {iter:Expr}{body:List Stmt}{wi:TI}{g:TG}{tb:TS}{pos:Pos}(hp:PassesOwn (model X.prog X.w) X.A X.env X.xe)(hc:X.calm=true)(hi:PI X tg iter wi)(hg:PG X tg g)(hb:PSs X body tb)
  (hs:∀ x,foldedSetIterable iter X.env x=pure x:=by intro _; rfl):PS X (.For tg iter body [] pos) (aUo wi g tb):=by
 intro pins s σ H D I h;refine wpAny_For (thn (hi pins s σ H _ I h) λv s1 h1=>thn h1 λitv s2 h2=>?_) hs;obtain⟨it,fp,tn,J,H2,e,I2,T,st2,f2,W,⟨m0,w0⟩,turn⟩:=h2;subst e
 -- what stays true of the iterator's objects through the loop
 have stat:∀ {H':Hp},(∀ b∈fp,H' b=none)->∀ b∈fp,lN X pins H' b:=λhn b hb=>⟨hn b hb,(f2 b hb).2⟩;refine codeAny_forLoop_any (λn s'=>∃ i σ' H',Inv X pins σ' H' s'/\tn i s'.heap/\(∀ b∈fp,H' b=none)/\W i n σ' H') ?_ m0 ⟨0,σ,H2,I2,st2,λb hb=>(f2 b hb).1,w0⟩;rintro n s3 ⟨i,σ3,H3,I3,st3,fr3,w3⟩;rcases turn i n σ3 H3 w3 with⟨stop,qn⟩ | ⟨go,N,hN,step⟩
 ·refine xDn hp (thn (T.done X rfl rfl rfl hc i pins s3 σ3 H3 X.xe I3 (stat fr3) st3 stop) λr s4 ⟨hr,I4⟩=>?_);subst hr;exact xEn ⟨σ3,H3,I4,qn⟩
 ·refine xDn hp (thn (T.item X rfl rfl rfl hc i pins s3 σ3 H3 X.xe I3 (stat fr3) st3 go) λr s4 ⟨u,hr,h4⟩=>?_);subst hr;refine xDn hp (thn h4 λ_ s5 ⟨x,H5,I5,r5,y5,st5,fr5⟩=>?_);have I5':=I5.pinned (stat fr5) (T.obj _ _ st5);refine xDn hp (thn (hg _ s5 σ3 H5 x u _ I5' r5 (step x H5 y5)) λ_ s6 ⟨σ6,H6,I6,q6⟩=>?_);refine xDn hp (thn (hb _ s6 σ6 H6 _ I6 q6) λf s7 q7=>?_)
  have again:∀ {σ7:St}{H7:Hp},Inv X (pins++sD fp s5.heap) σ7 H7 s7->N σ7 H7->∃ m,m<n/\∃ i σ' H',Inv X pins σ' H' s7/\tn i s7.heap/\(∀ b∈fp,H' b=none)/\W i m σ' H':=λ{σ7 H7} I7 n7=>by
   obtain⟨m',hm,w7⟩:=hN σ7 H7 n7;refine⟨m',hm,i+1,σ7,H7,I7.unpinned,T.keep _ _ _ st5 λb hb o e=>(I7.pin (b,o) (xBp _ (xBp _ (jW hb e)))).1,λb hb=>?_,w7⟩;obtain⟨o,e,d⟩:=T.obj _ _ st5 b hb;exact (I7.pin (b,o) (xBp _ (xBp _ (jW hb e)))).2.1
  cases f with
  | next=>obtain⟨σ7,H7,I7,n7⟩:=q7; exact again I7 n7
  | cont=>obtain⟨σ7,H7,I7,n7⟩:=q7; exact again I7 n7
  | brk=>obtain⟨σ7,H7,I7,q7⟩:=q7; exact⟨σ7,H7,I7.unpinned,q7⟩
  | ret v=>obtain⟨x7,σ7,H7,I7,r7,q7⟩:=q7; exact⟨x7,σ7,H7,I7.unpinned,r7,q7⟩
end

theorem dY {K:xAb}{a:Addr}{xs:List V}{g:TG}{tb:TS}{D:tL}{σ:St}{H:Hp}(Pv:Nat->St->Hp->Prop)(h0:Pv 0 σ H)(hl:∀ i σ H,i<=xs.length->Pv i σ H->SqL K H a xs)
  (hs:∀ i x σ H,xs[i]?=some x->Pv i σ H->g x σ H λσ2 H2=>tb { D with nx:=Pv (i+1),ct:=Pv (i+1),bk:=D.nx } σ2 H2)(hd:∀ σ H,Pv xs.length σ H->D.nx σ H) :
  ∃ W:Nat->Nat->St->Hp->Prop,(∃ m,W 0 m σ H)/\∀ i m σ H,W i m σ H ->
   ((Itl K a).stop i H/\D.nx σ H)\/((Itl K a).go i H/\∃ N:St->Hp->Prop,(∀ σ' H',N σ' H'->∃ m',m'<m/\W (i+1) m' σ' H')/\∀ x H',(Itl K a).yld i H x H'->g x σ H' λσ2 H2=>tb { D with nx:=N,ct:=N,bk:=D.nx } σ2 H2):=by
 refine⟨λi m σ H=>m=xs.length-i/\i<=xs.length/\Pv i σ H,⟨xs.length,by simp,xBu _,h0⟩,?_⟩;rintro i m σ H ⟨rfl,hi,p⟩;have q:=hl i σ H hi p
 by_cases hlt:i<xs.length
 ·refine .inr ⟨⟨xs,xs[i],q,by simp[hlt]⟩,Pv (i+1),λσ' H' p'=>⟨xs.length-(i+1),by omega,rfl,hlt,p'⟩,λx H' y=>?_⟩;obtain⟨e,y⟩:=y;subst e;exact hs i x σ _ (y xs q) p
 ·have e:i=xs.length:=by omega
  subst e;exact .inl ⟨⟨xs,q,xAh _⟩,hd σ H p⟩
theorem aFv {lo:Int}{n:Nat}{g:TG}{tb:TS}{D:tL}{σ:St}{H:Hp}(Pv:Nat->St->Hp->Prop)(h0:Pv 0 σ H)
  (hs:∀ i σ H,i<n->Pv i σ H->g (.int (lo+i)) σ H λσ2 H2=>tb { D with nx:=Pv (i+1),ct:=Pv (i+1),bk:=D.nx } σ2 H2)(hd:∀ σ H,Pv n σ H->D.nx σ H) :
  ∃ W:Nat->Nat->St->Hp->Prop,(∃ m,W 0 m σ H)/\∀ i m σ H,W i m σ H ->
   ((Itr lo n).stop i H/\D.nx σ H)\/((Itr lo n).go i H/\∃ N:St->Hp->Prop,(∀ σ' H',N σ' H'->∃ m',m'<m/\W (i+1) m' σ' H')/\∀ x H',(Itr lo n).yld i H x H'->g x σ H' λσ2 H2=>tb { D with nx:=N,ct:=N,bk:=D.nx } σ2 H2):=by
 refine⟨λi m σ H=>m=n-i/\i<=n/\Pv i σ H,⟨n,by simp,xBu _,h0⟩,?_⟩;rintro i m σ H ⟨rfl,hi,p⟩
 by_cases hlt:i<n
 ·refine .inr ⟨hlt,Pv (i+1),λσ' H' p'=>⟨n-(i+1),by omega,rfl,hlt,p'⟩,λx H' y=>?_⟩;obtain⟨e,y⟩:=y;subst e y;exact hs i σ _ hlt p
 ·have e:i=n:=by omega
  subst e;exact .inl ⟨xAh _,hd σ H p⟩

abbrev R2:=V->V->Hp->VK->Prop
def OpR (X:Cx)(f:Value->Value->Sem Value)(r:R2):Prop:=
 ∀ (pins:xPn) (s:Shared) (σ:St) (H:Hp) (x y:V) (v u:Value) (Q:VK),Inv X pins σ H s->cC x v->cC y u->r x y H Q ->
  wpAny (model X.prog X.w) X.A (f v u) (EP X pins σ Q) X.xe s
def UnR (X:Cx)(f:Value->Sem Value)(r:V->Hp->VK->Prop):Prop:=
 ∀ (pins:xPn) (s:Shared) (σ:St) (H:Hp) (x:V) (v:Value) (Q:VK),Inv X pins σ H s->cC x v->r x H Q ->
  wpAny (model X.prog X.w) X.A (f v) (EP X pins σ Q) X.xe s
def CallR (X:Cx)(f:Value)(r:List V->Hp->VK->Prop):Prop:=
 ∀ (pins:xPn) (s:Shared) (σ:St) (H:Hp) (xs:List V) (us:List Value) (Q:VK),Inv X pins σ H s->bU xs us->r xs H Q ->
  wpAny (model X.prog X.w) X.A (call f us) (EP X pins σ Q) X.xe s
def aWy (X:Cx)(r:V->Hp->(Bool->Hp->Prop)->Prop):Prop:=
 ∀ (pins:xPn) (s:Shared) (σ:St) (H:Hp) (x:V) (v:Value) (Q:Bool->Hp->Prop),Inv X pins σ H s->cC x v->r x H Q ->
  wpAny (model X.prog X.w) X.A (truthy v) (TP X pins σ Q) X.xe s

def tOp (r:R2)(ta tb:TE):TE:=λσ H Q=>ta σ H λx H1=>tb σ H1 λy H2=>r x y H2 Q
def tUn (r:V->Hp->VK->Prop)(ta:TE):TE:=λσ H Q=>ta σ H λx H1=>r x H1 Q
inductive rI (C:Int->Int->Prop)(g:Int->Int->V)(x:V)(y:V)(H:Hp)(Q:VK):Prop
 | mk (i:_)(j:_)(h0_:x=.int i)(h1_:y=.int j)(h2_:C i j)(h3_:Q (g i j) H)
inductive rI0 (g:Int->Int->V)(x:V)(y:V)(H:Hp)(Q:VK):Prop
 | mk (i:_)(j:_)(h0_:x=.int i)(h1_:y=.int j)(h2_:Q (g i j) H)
def rU (g:Int->V):V->Hp->VK->Prop:=λx H Q=>∃ i,x=.int i/\Q (g i) H

section
variable {X:Cx}{a b c:Expr}{ta tb tc:TE}{pos:Pos}

theorem aRo (ha:PE X a ta)(hb:PE X b tb){pins:xPn}{s:Shared}{σ:St}{H:Hp}{R:V->V->Hp->Prop}(I:Inv X pins σ H s)
  (h:ta σ H λx H1=>tb σ H1 λy H2=>R x y H2){Q:xVP}{f:Value->Value->Sem Value}
  (hf:∀ v u s2 x y H2,Inv X pins σ H2 s2->cC x v->cC y u->R x y H2->wpAny (model X.prog X.w) X.A (f v u) Q X.xe s2) :
  wpAny (model X.prog X.w) X.A (eval a X.env) (λv s₁=>wpAny (model X.prog X.w) X.A (eval b X.env) (λu s₂=>wpAny (model X.prog X.w) X.A (f v u) Q X.xe s₂) X.xe s₁) X.xe s:=by
 refine thn (ha pins s σ H _ I h) λv s1 ⟨x,H1,I1,r1,q1⟩=>?_;refine thn (hb pins s1 σ H1 _ I1 q1) λu s2 ⟨y,H2,I2,r2,q2⟩=>?_;exact hf v u s2 x y H2 I2 r1 r2 q2

theorem bX {op:Operator}{r:R2}(ho:OpR X (binaryOp op) r)(ha:PE X a ta)(hb:PE X b tb):PE X (.BinOp a op b pos) (tOp r ta tb):=by
 intro pins s σ H Q I h;exact wpAny_BinOp (aRo ha hb I h λv u s2 x y H2 I2 rx ry q=>ho pins s2 σ H2 x y v u Q I2 rx ry q)
theorem aOx {op:UnaryOp}{r:V->Hp->VK->Prop}(ho:UnR X (unaryOp op) r)(ha:PE X a ta):PE X (.UnaryOp op a pos) (tUn r ta):=by
 intro pins s σ H Q I h;exact UnaryOp_ (thn (ha pins s σ H _ I h) λv s1 ⟨x,H1,I1,r1,q1⟩=>ho pins s1 σ H1 x v Q I1 r1 q1)

theorem opI {f:Value->Value->Sem Value}{C:Int->Int->Prop}{g:Int->Int->Int}
  (rule:∀ (i j:Int) (t u:Tok) (s:Shared) (Q:xVP) (E:xVP),C i j->Q (.int (g i j) s.toks) { s with toks:=s.toks+1 }->wpAny (model X.prog X.w) X.A (f (.int i t) (.int j u)) Q E s) :
  OpR X f (rI C λi j=>.int (g i j)):=by
 intro pins s σ H x y v u Q I rx ry h;obtain⟨i,j,rfl,rfl,hc,q⟩:=h;obtain⟨t,rfl⟩:=rx;obtain⟨t',rfl⟩:=ry;exact rule i j t t' s _ _ hc ⟨.int (g i j),H,I.tok _,⟨_,rfl⟩,q⟩
theorem aSu {f:Value->Value->Sem Value}{g:Int->Int->Int}
  (rule:∀ (i j:Int) (t u:Tok) (s:Shared) (Q:xVP) (E:xVP),Q (.int (g i j) s.toks) { s with toks:=s.toks+1 }->wpAny (model X.prog X.w) X.A (f (.int i t) (.int j u)) Q E s) :
  OpR X f (rI0 λi j=>.int (g i j)):=by
 intro pins s σ H x y v u Q I rx ry h;obtain⟨i,j,rfl,rfl,q⟩:=h;obtain⟨t,rfl⟩:=rx;obtain⟨t',rfl⟩:=ry;exact rule i j t t' s _ _ ⟨.int (g i j),H,I.tok _,⟨_,rfl⟩,q⟩
theorem aQt {f:Value->Value->Sem Value}{g:Int->Int->Bool}
  (rule:∀ (i j:Int) (t u:Tok) (s:Shared) (Q:xVP) (E:xVP),Q (.bool (g i j)) s->wpAny (model X.prog X.w) X.A (f (.int i t) (.int j u)) Q E s) :
  OpR X f (rI0 λi j=>.bl (g i j)):=by
 intro pins s σ H x y v u Q I rx ry h;obtain⟨i,j,rfl,rfl,q⟩:=h;obtain⟨t,rfl⟩:=rx;obtain⟨t',rfl⟩:=ry;exact rule i j t t' s _ _ ⟨.bl (g i j),H,I,rfl,q⟩

def aXg (i j:Int):Prop:=0<j/\j<1073741824
def aRu (i j:Int):Prop:=(-(2^64)<i/\i<2^64)\/(-(2^64)<j/\j<2^64)
theorem aRu.ok {i j:Int}(h:aRu i j):IntMulOk i j:=by
 rcases h with⟨h1,h2⟩ | ⟨h1,h2⟩
 ·exact .of_left (intBits_le_64 h1 h2)
 ·exact .of_right (intBits_le_64 h1 h2)

theorem iN:OpR X (binaryOp .Add) (rI0 λi j=>.int (i+j)):=aSu λ_ _ _ _ _ _ _ q=>add_int q
theorem aQr:OpR X (binaryOp .Sub) (rI0 λi j=>.int (i-j)):=aSu λ_ _ _ _ _ _ _ q=>sub_int q
theorem pF:OpR X (binaryOp .Mult) (rI aRu λi j=>.int (i*j)):=opI λ_ _ _ _ _ _ _ hc q=>mul_int q hc.ok
theorem gU:OpR X (binaryOp .FloorDiv) (rI aXg λi j=>.int (i/j)):=opI λi j _ _ _ _ _ hc q=>by
 have h1:(0:Int)<j:=hc.1;have h2:j<1073741824:=hc.2;exact floordiv_int (by omega) (by rw[Int.fdiv_eq_ediv_of_nonneg i (by omega)]; exact q) (.inl (PyProof.noPylong_small (by omega)))
theorem dU:OpR X (binaryOp .Mod) (rI (λ_ j=>0<j) λi j=>.int (i%j)):=opI λi j _ _ _ _ _ hc q=>by
 have h1:(0:Int)<j:=hc;exact mod_int' (by omega) (by rw[Int.fmod_eq_emod_of_nonneg i (by omega)]; exact q)


theorem unI {f:Value->Sem Value}{g:Int->Int}
  (rule:∀ (i:Int) (t:Tok) (s:Shared) (Q:xVP) (E:xVP),Q (.int (g i) s.toks) { s with toks:=s.toks+1 }->wpAny (model X.prog X.w) X.A (f (.int i t)) Q E s) :
  UnR X f (rU λi=>.int (g i)):=by
 intro pins s σ H x v Q I rx h;obtain⟨i,rfl,q⟩:=h;obtain⟨t,rfl⟩:=rx;exact rule i t s _ _ ⟨.int (g i),H,I.tok _,⟨_,rfl⟩,q⟩
theorem aGp:UnR X (unaryOp .USub) (rU λi=>.int (-i)):=unI λ_ _ _ _ _ q=>neg_int q

end

def aSe:V->V->Bool
 | .non,.non=>true | .non,.int _=>true | .int _,.non=>true | .non,.bl _=>true | .bl _,.non=>true | .non,.str _=>true | .str _,.non=>true
 | .int _,.int _=>true | .bl _,.bl _=>true | .str _,.str _=>true | .byt _,.byt _=>true
 | .int _,.str _=>true | .str _,.int _=>true | .bl _,.str _=>true | .str _,.bl _=>true
 | _,_=>false
def rEq:R2:=λx y H Q=>aSe x y=true/\Q (.bl (decide (x=y))) H
def rNe:R2:=λx y H Q=>aSe x y=true/\Q (.bl (!decide (x=y))) H

theorem aDr {i j:Int}:decide (V.int i=V.int j)=(i==j):=by
 rw[xDr]
 simp
theorem aLc {i j:Bool}:decide (V.bl i=V.bl j)=(i==j):=by
 rw[xDr]
 simp
theorem aDq {i j:Str}:decide (V.str i=V.str j)=(i==j):=by
 rw[xDr]
 simp
theorem aDs {i j:Array UInt8}:decide (V.byt i=V.byt j)=(i.toList==j.toList):=by
 rw[xDr];cases i;cases j
 simp

section
variable {X:Cx}{a b c:Expr}{ta tb tc:TE}{pos:Pos}
theorem cO {pins:xPn}{σ:St}{H:Hp}{s:Shared}{Q:VK}{k k':Bool}(I:Inv X pins σ H s)(q:Q (.bl k) H)(e:k=k'):EP X pins σ Q (.bool k') s:=by
 subst e;exact⟨.bl k,H,I,rfl,q⟩
theorem iX:OpR X (compareOp .Eq) rEq:=by
 intro pins s σ H x y v u Q I rx ry h;obtain⟨hs,q⟩:=h;cases x with
 | non=>
  cases rx;cases y with
  | non=>cases ry; exact PySem.EqNone.eq_none_none (cO I q (by simp))
  | bl j=>cases ry; exact PySem.EqNone.eq_none_bool (cO I q (by simp))
  | int j=>obtain⟨t',rfl⟩:=ry; exact PySem.EqNone.eq_none_int (cO I q (by simp))
  | str j=>obtain⟨t',rfl⟩:=ry; exact PySem.EqNone.eq_none_str (cO I q (by simp))
  | _=>exact xAu (show false=true from hs) xAr
 | bl i=>
  cases rx;cases y with
  | non=>cases ry; exact PySem.EqNone.eq_bool_none (cO I q (by simp))
  | bl j=>cases ry; exact eq_bool (cO I q aLc)
  | str j=>obtain⟨t',rfl⟩:=ry; exact PySem.EqMixed.eq_bool_str (cO I q (by simp))
  | _=>exact xAu (show false=true from hs) xAr
 | int i=>
  obtain⟨t,rfl⟩:=rx;cases y with
  | non=>cases ry; exact PySem.EqNone.eq_int_none (cO I q (by simp))
  | int j=>obtain⟨t',rfl⟩:=ry; exact eq_int (cO I q aDr)
  | str j=>obtain⟨t',rfl⟩:=ry; exact PySem.EqMixed.eq_int_str (cO I q (by simp))
  | _=>exact xAu (show false=true from hs) xAr
 | str i=>
  obtain⟨t,rfl⟩:=rx;cases y with
  | non=>cases ry; exact PySem.EqNone.eq_str_none (cO I q (by simp))
  | bl j=>cases ry; exact PySem.EqMixed.eq_str_bool (cO I q (by simp))
  | int j=>obtain⟨t',rfl⟩:=ry; exact PySem.EqMixed.eq_str_int (cO I q (by simp))
  | str j=>obtain⟨t',rfl⟩:=ry; exact eq_str (cO I q aDq)
  | _=>exact xAu (show false=true from hs) xAr
 | byt i=>
  obtain⟨t,rfl⟩:=rx;cases y with
  | byt j=>obtain⟨t',rfl⟩:=ry; exact eq_bytes (cO I q aDs)
  | _=>exact xAu (show false=true from hs) xAr
 | _=>cases y <;> exact xAu (show false=true from hs) xAr
theorem kE:OpR X (compareOp .NotEq) rNe:=by
 intro pins s σ H x y v u Q I rx ry h;obtain⟨hs,q⟩:=h;cases x with
 | non=>
  cases rx;cases y with
  | non=>cases ry; exact PySem.EqNone.ne_none_none (cO I q (by simp))
  | bl j=>cases ry; exact PySem.EqNone.ne_none_bool (cO I q (by simp))
  | int j=>obtain⟨t',rfl⟩:=ry; exact PySem.EqNone.ne_none_int (cO I q (by simp))
  | str j=>obtain⟨t',rfl⟩:=ry; exact PySem.EqNone.ne_none_str (cO I q (by simp))
  | _=>exact xAu (show false=true from hs) xAr
 | bl i=>
  cases rx;cases y with
  | non=>cases ry; exact PySem.EqNone.ne_bool_none (cO I q (by simp))
  | bl j=>cases ry; exact ne_bool (cO I q (congrArg not aLc))
  | str j=>obtain⟨t',rfl⟩:=ry; exact PySem.EqMixed.ne_bool_str (cO I q (by simp))
  | _=>exact xAu (show false=true from hs) xAr
 | int i=>
  obtain⟨t,rfl⟩:=rx;cases y with
  | non=>cases ry; exact PySem.EqNone.ne_int_none (cO I q (by simp))
  | int j=>obtain⟨t',rfl⟩:=ry; exact ne_int (cO I q (congrArg not aDr))
  | str j=>obtain⟨t',rfl⟩:=ry; exact PySem.EqMixed.ne_int_str (cO I q (by simp))
  | _=>exact xAu (show false=true from hs) xAr
 | str i=>
  obtain⟨t,rfl⟩:=rx;cases y with
  | non=>cases ry; exact PySem.EqNone.ne_str_none (cO I q (by simp))
  | bl j=>cases ry; exact PySem.EqMixed.ne_str_bool (cO I q (by simp))
  | int j=>obtain⟨t',rfl⟩:=ry; exact PySem.EqMixed.ne_str_int (cO I q (by simp))
  | str j=>obtain⟨t',rfl⟩:=ry; exact ne_str (cO I q (congrArg not aDq))
  | _=>exact xAu (show false=true from hs) xAr
 | byt i=>
  obtain⟨t,rfl⟩:=rx;cases y with
  | byt j=>obtain⟨t',rfl⟩:=ry; exact ne_bytes (cO I q (congrArg not aDs))
  | _=>exact xAu (show false=true from hs) xAr
 | _=>cases y <;> exact xAu (show false=true from hs) xAr

theorem aDd:OpR X (compareOp .Lt) (rI0 λi j=>.bl (decide (i<j))):=aQt λ_ _ _ _ _ _ _ q=>lt_int q
theorem aOy:OpR X (compareOp .LtE) (rI0 λi j=>.bl (decide (i<=j))):=aQt λ_ _ _ _ _ _ _ q=>le_int q
theorem pV:OpR X (compareOp .Gt) (rI0 λi j=>.bl (decide (j<i))):=aQt λ_ _ _ _ _ _ _ q=>gt_int q
theorem uM:OpR X (compareOp .In) (λx y H Q=>∃ i j,x=.str i/\y=.str j/\Q (.bl (!(Builtin.Str.occurrences j i 0 j.length 1).isEmpty)) H):=by
 intro pins s σ H x y v u Q I rx ry h;obtain⟨i,j,rfl,rfl,q⟩:=h;obtain⟨t,rfl⟩:=rx;obtain⟨t',rfl⟩:=ry;exact in_str (cO I q rfl)

theorem aIn:OpR X (compareOp .Is) (λx y H Q=>y=.non/\Q (.bl (decide (x=.non))) H):=by
 intro pins s σ H x y v u Q I rx ry h;obtain⟨rfl,q⟩:=h;cases ry;refine is_none_gen (cO I q ?_)
 cases x <;> first
  | (cases rx; rfl)
  | (obtain⟨t,rfl⟩:=rx; rfl)
theorem wA:OpR X (compareOp .IsNot) (λx y H Q=>y=.non/\Q (.bl (!decide (x=.non))) H):=by
 intro pins s σ H x y v u Q I rx ry h;obtain⟨rfl,q⟩:=h;cases ry;refine isnot_none_gen (cO I q ?_)
 cases x <;> first
  | (cases rx; rfl)
  | (obtain⟨t,rfl⟩:=rx; rfl)



theorem bJ (b:Expr){op:CmpOp}(h:op≠.In:=by decide)(h2:op≠.NotIn:=by decide):behindInMarks op b=false:=by
 have e1:(op==CmpOp.In)=false:=by cases op <;> first | rfl | exact xAu rfl h
 have e2:(op==CmpOp.NotIn)=false:=by cases op <;> first | rfl | exact xAu rfl h2
 cases b <;> simp[behindInMarks,e1,e2]
theorem iA {op:CmpOp}{r:R2}(ho:OpR X (compareOp op) r)(ha:PE X a ta)(hb:PE X b tb)(hm:behindInMarks op b=false):PE X (.Compare a [op] [b] pos) (tOp r ta tb):=by
 intro pins s σ H Q I h;exact wpAny_Compare1 (aRo ha hb I h λv u s2 x y H2 I2 rx ry q=>ho pins s2 σ H2 x y v u Q I2 rx ry q) hm
def aRx (t:TE):TT:=λσ H Q=>t σ H λx H'=>aUg x H' Q
theorem aX {op:CmpOp}{r:R2}(ho:OpR X (compareOp op) r)(ha:PE X a ta)(hb:PE X b tb)(hm:behindInMarks op b=false):PT X (.Compare a [op] [b] pos) (aRx (tOp r ta tb)):=by
 intro pins s σ H Q I h
 refine xIj (thn (ha pins s σ H _ I h) λv s1 ⟨x,H1,I1,r1,q1⟩=>thn (hb pins s1 σ H1 _ I1 q1) λu s2 ⟨y,H2,I2,r2,q2⟩=>
  thn (ho pins s2 σ H2 x y v u _ I2 r1 r2 q2) λc s3 ⟨z,H3,I3,r3,k,e,q3⟩=>?_) hm
 subst e;cases r3;exact xCf ⟨H3,I3,q3⟩
def aPx (r r':R2)(ta tb tc:TE):TE:=λσ H Q=>ta σ H λx H1=>tb σ H1 λy H2=>r x y H2 λz H3=>∃ k,z=.bl k /\
 (if k=true then tc σ H3 λw' H4=>r' y w' H4 Q else Q (.bl false) H3)
theorem aIj {op op':CmpOp}{r r':R2}(ho:OpR X (compareOp op) r)(ho':OpR X (compareOp op') r')(ha:PE X a ta)(hb:PE X b tb)(hc:PE X c tc)
  (hm:lastMarks [op,op'] [b,c]=false:=by with_unfolding_all rfl):PE X (.Compare a [op,op'] [b,c] pos) (aPx r r' ta tb tc):=by
 intro pins s σ H Q I h
 refine Compare_chain (thn (ha pins s σ H _ I h) λv s1 ⟨x,H1,I1,r1,q1⟩=>chain_link (thn (hb pins s1 σ H1 _ I1 q1) λu s2 ⟨y,H2,I2,r2,q2⟩=>
  thn (ho pins s2 σ H2 x y v u _ I2 r1 r2 q2) λd s3 ⟨z,H3,I3,r3,k,e,q3⟩=>?_)) hm
 subst e;cases r3;refine xCf ?_;cases k with
 | false=>exact ite_ff ⟨.bl false,H3,I3,rfl,q3⟩
 | true=>exact ite_tt (chain_last (thn (hc pins s3 σ H3 _ I3 q3) λw' s4 ⟨z',H4,I4,r4,q4⟩=>ho' pins s4 σ H4 y z' u w' Q I4 r2 r4 q4))

def aTu (K:xAb)(x:V)(H:Hp)(k:Bool):Prop:=
 match x with
 | .non=>k=false
 | .bl b=>k=b
 | .int i=>k=(i != 0)
 | .str y=>y.length<=sizeLine/\k=((y.length:Int) != 0)
 | .byt y=>y.size<=sizeLine/\k=((y.size:Int) != 0)
 | .ref p=>(∃ xs,SqL K H p xs/\k=!xs.isEmpty)\/(∃ xs,SqT K H p xs/\k=!xs.isEmpty)\/∃ kvs,H p=some (.dK kvs)/\k=!kvs.isEmpty
 | _=>False
theorem aBi {κ:Type}{kvs:List (κ×V)}{vs:List (κ×Value)}(r:KV kvs vs):(!vs.isEmpty)=!kvs.isEmpty:=by
 cases r <;> rfl
theorem sN {xs:List V}{its:List Value}(r:bU xs its):(!its.toArray.isEmpty)=!xs.isEmpty:=by
 cases r <;> simp
theorem pI:(sizeLine:Nat)<2^63:=by rw[sizeLine_eq]; decide
theorem aPn:aWy X (λx H Q=>∃ k,aTu X.K x H k/\Q k H):=by
 intro pins s σ H x v Q I rx h;obtain⟨k,e,q⟩:=h;have hl:=pI;have hs:sizeLine=16777216:=sizeLine_eq;cases x with
 | non=>
  cases rx;have e':k=false:=e;subst e';exact truthy_none ⟨H,I,q⟩
 | bl b=>
  cases rx;have e':k=b:=e;subst e';exact xCf ⟨H,I,q⟩
 | int i=>
  obtain⟨t,rfl⟩:=rx;have e':k=(i != 0):=e;subst e';exact PySem.P.truthy_int ⟨H,I,q⟩
 | str y=>
  obtain⟨t,rfl⟩:=rx;obtain⟨hy,e'⟩:y.length<=sizeLine/\k=((y.length:Int) != 0):=e;subst e';exact PySem.P.truthy_str (by omega) ⟨H,I.tok _,q⟩
 | byt y=>
  obtain⟨t,rfl⟩:=rx;obtain⟨hy,e'⟩:y.size<=sizeLine/\k=((y.size:Int) != 0):=e;subst e';exact truthy_bytes (by omega) ⟨H,I.tok _,q⟩
 | ref p=>
  cases rx;have e':(∃ xs,SqL X.K H p xs/\k=!xs.isEmpty)\/(∃ xs,SqT X.K H p xs/\k=!xs.isEmpty)\/∃ kvs,H p=some (.dK kvs)/\k=!kvs.isEmpty:=e;rcases e' with⟨xs,hx,e'⟩ | ⟨xs,hx,e'⟩ | ⟨kvs,hx,e'⟩
  ·subst e';obtain⟨its,r,pl,hz⟩:=I.list hx;have hlen:=r.length;exact wpAny_truthy_list pl.isList (by simp only[List.size_toArray]; omega) ⟨H,I.tok _,by rw[sN r]; exact q⟩
  ·subst e';obtain⟨its,r,pl,hz⟩:=I.tuple hx;have hlen:=r.length;exact truthy_tuple pl (by simp only[List.size_toArray]; omega) ⟨H,I.tok _,by rw[sN r]; exact q⟩
  ·subst e';obtain⟨hz,hS,vs,r,m⟩:kvs.length<=sizeLine/\(p==sysModules)=false/\∃ vs,KV kvs vs/\s.heap.DictOf (dG X.prog X.w) p vs:=I.hok p _ hx;have hlen:kvs.length=vs.length:=Paired.length r;exact wpAny_truthy_dict hS m (by omega) ⟨H,I.tok _,by rw[aBi r]; exact q⟩
 | _=>exact (show False from e).elim
theorem rY (ha:PE X a ta)(he:∀ whole,isTrue a X.env whole=(do let v <- whole; standAt a.pos; holding [v] (truthy v))) :
  PT X a (λσ H Q=>ta σ H λx H'=>∃ k,aTu X.K x H' k/\Q k H'):=by
 intro pins s σ H Q I h;exact isTrue_plain (thn (ha pins s σ H _ I h) λv s1 ⟨x,H1,I1,r1,q1⟩=>aPn pins s1 σ H1 x v Q I1 r1 q1) (he _)

theorem aAl:OpR X (binaryOp .Add) (λx y H Q=>∃ i j,x=.str i/\y=.str j/\i.length+j.length<=sizeLine/\Q (.str (i++j)) H):=by
 intro pins s σ H x y v u Q I rx ry h;obtain⟨i,j,rfl,rfl,hz,q⟩:=h;obtain⟨t,rfl⟩:=rx;obtain⟨t',rfl⟩:=ry;exact add_str (λt' tk=>⟨.str (i++j),H,I.tok _,⟨_,rfl⟩,q⟩) hz


theorem kH {x:V}{us:List Value}(r:bU [x] us):∃ u,us=[u]/\cC x u:=by
 cases r with
 | cons r1 r2=>cases r2; exact⟨_,rfl,r1⟩
theorem aGo {x y:V}{us:List Value}(r:bU [x,y] us):∃ u w',us=[u,w']/\cC x u/\cC y w':=by
 cases r with
 | cons r1 r2=>
  cases r2 with
  | cons r3 r4=>cases r4; exact⟨_,_,rfl,r1,r3⟩
end

structure aBx (h:Heap)(x dx C:Addr)(mA:xSO):Prop where
 obj:h.get? x=some (instObj C dx)
 ns:h.Ns1 dx mA
 ne:dx≠x

theorem aFo {h:Heap}{dx:Addr}{mA:xSO}(n:h.Ns1 dx mA):∃ od,h.get? dx=some od/\∀ name,lookIn name od=some (mA name):=by
 obtain⟨o,es,ep,ho,hd,hk,_,hm⟩:=n;refine⟨o,ho,λname=>?_⟩;have e:=hm name;unfold nsFind findBy at e;rw[<- Array.find?_toList] at e;unfold lookIn;rw[hd];dsimp only;split
 ·rename_i y q
  rw[q] at e;exact congrArg some e
 ·rename_i q
  rw[q] at e
  have a:es.toList.any (·.refKey)=false:=by
   rw[List.any_eq_false];intro y hy;obtain⟨z,t,hkey⟩:=hk y (Array.mem_toList_iff.mp hy);simp[DictEntry.refKey,hkey]
  have a':¬ es.toList.any (·.refKey)=true:=by rw[a]; exact xAr
  rw[xAw a'];exact congrArg some e

theorem aBx.look {h:Heap}{x dx C:Addr}{mA:xSO}(I:aBx h x dx C mA):∃ od,InstAt h x (instObj C dx) C (some od)/\∀ name,lookIn name od=some (mA name):=
 let ⟨od,ho,hl⟩:=aFo I.ns
 ⟨od,⟨I.obj,rfl,rfl,ho⟩,hl⟩

section
variable {prog:Program}{w:World}{A:Around}{E:xVP}{s:Shared}{K:xAb}{x dx C f:Addr}{mA:xSO}{name:Str}{v:Value}

theorem aNp {expr:Bool}{Q:xVP}(X:K.In s.heap)(I:aBx s.heap x dx C mA)(hg:plainGet K C name=true)(hh:hasDictIn K C=true)
  (ha:findIn K (.ref C) name=some none)(hv:mA name=some v)(hv':handedIn v=true)(h:Q v { s with toks:=s.toks+1 }) :
  wpAny (model prog w) A (getAttr (.ref x) name expr) Q E s:=by
 obtain⟨od,J,hl⟩:=I.look;exact get_value X J (xGh hg).1 (findObj_own hh ha rfl (by rw[hl,hv])) hv' h


theorem aKs {pl:Sem Bool}{Q:Value×List Value->Shared->Prop}(X:K.In s.heap)(I:aBx s.heap x dx C mA)(hg:plainGet K C name=true)
  (hf:findIn K (.ref C) name=some (some (.ref f)))(ht:isFn K (.ref f)=true)(hv:mA name=none)(h:Q (.ref f,[.ref x]) s) :
  wpAny (model prog w) A (getMethod (.ref x) name pl) Q E s:=by
 obtain⟨od,J,hl⟩:=I.look;exact method_fn X J (xGh hg).1 (xGh hg).2 hf (xDy.mp ht) (by show (lookIn name od).map (·.isSome)=some false; rw[hl,hv]; rfl) h

theorem aMc {ns:List Str}{Q:Unit->Shared->Prop}(X:K.In s.heap)(I:aBx s.heap x dx C mA)
  (hs:findIn K (.ref C) "__setattr__" = some (some (.builtin "object.__setattr__")))(hp:plainOver K C=true)(ht:takerIn K C name=some none)(hh:hasDictIn K C=true)
  (hw:PySem.Within mA ns)(hsz:ns.length<=sizeLine)
  (h:∀ h',aBx h' x dx C (λy=>if y=name then some v else mA y)->Heap.SameBut dx s.heap h'->Q () { s with heap:=h',toks:=s.toks+2 }) :
  wpAny (model prog w) A (setAttr (.ref x) name v) Q E s:=by
 obtain⟨od,J,hl⟩:=I.look;refine set_plain X J hs (osa_open (s:={ s with toks:=s.toks+1 }) (r:=none) X J hp ht λb=>?_);obtain⟨cd,hc,hd'⟩:=any_some hh;have hx:s.heap.get? x=some ⟨.ref C,some dx,.plain,#[]⟩:=I.obj;refine xAc (xAl (xAc (xAc (wpAny_loadPart hx (xAc (Looks.here (s:={ s with toks:=s.toks+1 }) (looks_clsIn X hc) ?_))))));rw[hd'];refine xAl (a:=some dx) (xAc (xAl (xAc ?_)));refine wpAny_nsSet1 (s:={ s with toks:=s.toks+1 }) I.ns λh' hn2 hs2=>?_;obtain⟨oD,esD,epD,hoD,hdD,hcD⟩:=hn2.count (PySem.Within.cons name v hw);refine xAc (wpAny_lookBehind hoD (by rw[hdD]; exact pastItsLine_dict (xAs hcD (by rw[xBf]; omega))) ?_);exact xAl (h _ ⟨(hs2.2 _ (Ne.symm I.ne)).trans I.obj,hn2,I.ne⟩ hs2)

theorem yJ {R:Result->Shared->Prop}{vs:List Value}{kw:List (Str×Value)}(X:K.In s.heap)(hm:makesIn K C=true)
  (hi:findIn K (.ref C) "__init__" = some (some (.ref f)))(hf:typeIn K (.ref f)=some (.type "function"))
  (h:codeAny (model prog w) (A.under (.builtin "type.__call__" ⟨.ref C::vs,kw⟩)) (.call (.ref f) ⟨.ref (s.heap.objs.size+1)::vs,kw⟩) (InitBack (s.heap.objs.size+1) R)
   { s with heap:=(s.heap.push emptyDict).push (instObj C s.heap.objs.size) }) :
  codeAny (model prog w) A (.call (.ref C) ⟨vs,kw⟩) R s:=by
 obtain⟨hh,g,d,t,os⟩:=s;exact make_core (makes_of X hm) (looks_findIn X hi) (λself=>bind_fn X self hf) (.inl rfl) h
end

def eY (f:Str)(v:V):List (Str×V)->List (Str×V)
 | []=>[(f,v)]
 | (g,x)::r=>if g=f then (g,v)::r else (g,x)::eY f v r
theorem pX (f g:Str)(v:V):∀ fs:List (Str×V),(eY f v fs).lookup g=if g=f then some v else fs.lookup g
 | []=>by
  show List.lookup g [(f,v)]=_
  by_cases h:g=f
  ·have hb:(g==f)=true:=xDy.mpr h;simp only[List.lookup,hb,if_pos h]
  ·have hb:(g==f)=false:=xCn.mpr h;simp only[List.lookup,hb,if_neg h]
 | (k,x)::r=>by
  have ih:=pX f g v r;rw[show eY f v ((k,x)::r)=(if k=f then (k,v)::r else (k,x)::eY f v r) from rfl]
  by_cases hk:k=f
  ·rw[xAz hk]
   by_cases h:g=k
   ·have hb:(g==k)=true:=xDy.mpr h;simp only[List.lookup,hb,if_pos (h.trans hk)]
   ·have hb:(g==k)=false:=xCn.mpr h;simp only[List.lookup,hb,if_neg (λe:g=f=>h (e.trans hk.symm))]
  ·rw[xAw hk]
   by_cases h:g=k
   ·have hb:(g==k)=true:=xDy.mpr h;simp only[List.lookup,hb,if_neg (λe:g=f=>hk (h.symm.trans e))]
   ·have hb:(g==k)=false:=xCn.mpr h;simp only[List.lookup,hb];exact ih
theorem pL (f:Str)(v:V):∀ fs:List (Str×V),f∈(eY f v fs).map (·.1)/\∀ g,g∈fs.map (·.1)->g∈(eY f v fs).map (·.1)
 | []=>⟨by simp[eY],λg h=>by simp at h⟩
 | (k,x)::r=>by
  obtain⟨i1,i2⟩:=pL f v r;rw[show eY f v ((k,x)::r)=(if k=f then (k,v)::r else (k,x)::eY f v r) from rfl]
  by_cases hk:k=f
  ·rw[xAz hk];subst hk;exact⟨by simp,λg h=>by simpa using h⟩
  ·rw[xAw hk];refine⟨?_,λg h=>?_⟩
   ·rw[xBx];exact xBi _ i1
   ·rw[xBx] at h ⊢;rcases xAk.mp h with e | e
    ·exact xAk.mpr (.inl e)
    ·exact xBi _ (i2 g e)
theorem pY (f:Str)(v:V):∀ fs:List (Str×V),(eY f v fs).length<=fs.length+1
 | []=>by simp[eY]
 | (k,x)::r=>by
  have ih:=pY f v r;rw[show eY f v ((k,x)::r)=(if k=f then (k,v)::r else (k,x)::eY f v r) from rfl]
  by_cases hk:k=f
  ·rw[xAz hk,xBf,xBf]; omega
  ·rw[xAw hk,xBf,xBf]; omega

theorem kG.some_of {v:V}{o:Option Value}(r:kG (some v) o):∃ u,o=some u/\cC v u:=by
 cases o with
 | none=>exact (show False from r).elim
 | some u=>exact⟨u,rfl,r⟩
theorem kG.none_of {o:Option Value}(r:kG none o):o=none:=by
 cases o with
 | none=>rfl
 | some u=>exact (show False from r).elim
theorem aFu {v:V}{u:Value}(r:cC v u):handedIn u=true:=by
 cases v with
 | non=>cases (show u=Value.none from r); rfl
 | bl b=>cases (show u=Value.bool b from r); rfl
 | int i=>obtain⟨t,e⟩:=(show ∃ t,u=Value.int i t from r); cases e; rfl
 | str x=>obtain⟨t,e⟩:=(show ∃ t,u=Value.str x t from r); cases e; rfl
 | byt b=>obtain⟨t,e⟩:=(show ∃ t,u=Value.bytes b t from r); cases e; rfl
 | flt b=>obtain⟨t,e⟩:=(show ∃ t,u=Value.float b t from r); cases e; rfl
 | ref a=>cases (show u=Value.ref a from r); rfl
 | ty n=>cases (show u=Value.type n from r); rfl

section
variable {P:Program}{w:World}{H H':Hp}{h h':Heap}{a C dx:Addr}{fs fs':List (Str×V)}
theorem qU (hok:HOk P w H h)(e:H a=some (.ins C dx fs)):∃ mA,aBx h a dx C mA/\(∀ f,kG (fs.lookup f) (mA f))/\PySem.Within mA (fs.map (·.1))/\fs.length<=1000/\H dx=some (.own a):=by
 obtain⟨d,z,ne,ob,mA,n,r,q⟩:=(show dA P w H h a (.ins C dx fs) from hok a _ e)
 exact⟨mA,⟨ob,n,ne⟩,r,q,z,d⟩
end

structure Cls (K:xAb)(C:Addr):Prop where
 pg:plainGet K C Str.empty=true
 hd:hasDictIn K C=true
 po:plainOver K C=true
 sa:findIn K (.ref C) "__setattr__" = some (some (.builtin "object.__setattr__"))
theorem Cls.get {K:xAb}{C:Addr}(c:Cls K C)(f:Str):plainGet K C f=true:=c.pg
def dB (K:xAb)(C:Addr)(f:Str):Prop:=findIn K (.ref C) f=some none
theorem dB.taker {K:xAb}{C:Addr}{f:Str}(n:dB K C f):takerIn K C f=some none:=by
 unfold takerIn;rw[show findIn K (.ref C) f=some none from n]
 rfl
structure eI (K:xAb)(C:Addr)(m:Str)(f:Addr):Prop where
 at_:findIn K (.ref C) m=some (some (.ref f))
 fn:isFn K (.ref f)=true
 kp:keepIn K (.ref f)=true

section
variable {X:Cx}{pins:xPn}{σ:St}{H:Hp}{s:Shared}{a C dx:Addr}{fs:List (Str×V)}{f:Str}{v:V}{A:Around}{E:xVP}

theorem aBl {b:Bool}{Q:xVP}(I:Inv X pins σ H s)(e:H a=some (.ins C dx fs))(c:Cls X.K C)(n:dB X.K C f)(l:fs.lookup f=some v)
  (h:∀ u s',Inv X pins σ H s'->cC v u->Q u s'):wpAny (model X.prog X.w) A (getAttr (.ref a) f b) Q E s:=by
 obtain⟨mA,O,r,_,_,_⟩:=qU I.hok e;obtain⟨u,hu,ru⟩:=kG.some_of (v:=v) (o:=mA f) (by rw[<- l]; exact r f);exact aNp I.kIn O (c.get f) c.hd n hu (aFu ru) (h u _ (I.tok _) ru)


theorem jX {m:Str}{g:Addr}{pl:Sem Bool}{Q:Value×List Value->Shared->Prop}(I:Inv X pins σ H s)(e:H a=some (.ins C dx fs))(c:Cls X.K C)(k:eI X.K C m g)(l:fs.lookup m=none)
  (h:Q (.ref g,[.ref a]) s):wpAny (model X.prog X.w) A (getMethod (.ref a) m pl) Q E s:=by
 obtain⟨mA,O,r,_,_,_⟩:=qU I.hok e;have hn:mA m=none:=kG.none_of (by rw[<- l]; exact r m);exact aKs I.kIn O (c.get m) k.at_ k.fn hn h

theorem zV {y:V}{u:Value}{Q:Unit->Shared->Prop}(I:Inv X pins σ H s)(e:H a=some (.ins C dx fs))(c:Cls X.K C)(n:dB X.K C f)(hl:fs.length<1000)(ry:cC y u)
  (h:∀ s',Inv X pins σ (upd H a (.ins C dx (eY f y fs))) s'->Q () s'):wpAny (model X.prog X.w) A (setAttr (.ref a) f u) Q E s:=by
 obtain⟨mA,O,r,wi,_,ho⟩:=qU I.hok e;have hz:(fs.map (·.1)).length<=sizeLine:=by rw[xAa,sizeLine_eq]; omega
 refine aMc I.kIn O c.sa c.po n.taker c.hd wi hz λh' O' sb=>h _ ?_;have hd:∃ o,h'.get? dx=some o:=let ⟨o,_,_,e',_⟩:=O'.ns; ⟨o,e'⟩;refine I.write (x:=a) (e:=dx) (by rw[e]; exact True.intro) (.inr ho) (λb q hb z=>(sb.2 b hb).trans z) hd ?_;refine⟨by rw[aH O.ne]; exact ho,?_,O.ne,O'.obj,_,O'.ns,λg=>?_,λg hg=>?_⟩
 ·have:=pY f y fs; omega
 ·show kG ((eY f y fs).lookup g) (if g=f then some u else mA g)
  rw[pX]
  by_cases q:g=f
  ·rw[xAz q,xAz q]; exact ry
  ·rw[xAw q,xAw q]; exact r g
 ·by_cases q:g=f
  ·rw[q]; exact (pL f y fs).1
  ·refine (pL f y fs).2 g (wi g λz=>hg ?_);show (if g=f then some u else mA g)=none
   rw[xAw q]; exact z

theorem Inv.made (I:Inv X pins σ H s):Inv X pins σ (upd (upd H s.heap.objs.size (.own (s.heap.objs.size+1))) (s.heap.objs.size+1) (.ins C s.heap.objs.size []))
  { s with heap:=(s.heap.push emptyDict).push (instObj C s.heap.objs.size) }:=by
 have e1:(s.heap.push emptyDict).get? s.heap.objs.size=some emptyDict:=xAq s.heap rfl
 have e2:((s.heap.push emptyDict).push (instObj C s.heap.objs.size)).get? (s.heap.objs.size+1)=some (instObj C s.heap.objs.size):=by
  have:=xAq (s.heap.push emptyDict) (o:=instObj C s.heap.objs.size) rfl
  rwa [xDk] at this
 have e3:(s.heap.push emptyDict).Ns s.heap.objs.size (λ_=>none):=⟨emptyDict,#[],_,e1,rfl,(λe he=>xAu he (by simp)),λ_=>rfl⟩;have I1:=I.laid (a:=s.heap.objs.size) (o:=.own (s.heap.objs.size+1)) (h':=s.heap.push emptyDict) (t':=s.toks) (λb u q=>xAf _ q) (xAh _) ⟨_,e1⟩;refine I1.laid (a:=s.heap.objs.size+1) (o:=.ins C s.heap.objs.size []) (t':=s.toks) (λb u q=>xAf _ q) (Nat.le_of_eq (xDk _ _)) ?_;have ne:s.heap.objs.size≠s.heap.objs.size+1:=xBd (xFk _);refine⟨by rw[aH ne,aD],xBu _,ne,e2,λ_=>none,(Heap.Ns1.of_empty e3).at λo q=>xAf _ q,λ_=>True.intro,λy hy=>xAu rfl hy⟩

theorem aNy {prog:Program}{w:World}{env:Env}{e:Expr}{f:Str}{pos:Pos}{s:Shared}{Q:xVP}(hb:attributeBase e f env (eval e env)=eval e env)
  (h:wpAny (model prog w) A (eval e env) (λo s₁=>wpAny (model prog w) A (getAttr o f true) Q E s₁) E s):wpAny (model prog w) A (eval (.Attribute e f pos) env) Q E s:=
 Attribute_any_ h (by rw[arm_eval_Attribute,hb])
end

inductive aUf (K:xAb)(f:Str)(x:V)(H1:Hp)(Q:VK):Prop
 | mk (a C dx:Addr)(fs:List (Str×V))(v:V)(h1:x=.ref a)(h2:H1 a=some (.ins C dx fs))(h3:Cls K C)(h4:dB K C f)(h5:fs.lookup f=some v)(q:Q v H1)
def aPs (K:xAb)(ta:TE)(f:Str):TE:=λσ H Q=>ta σ H λx H1=>aUf K f x H1 Q
inductive aUa (K:xAb)(f:Str)(x y:V)(H2:Hp)(R:Hp->Prop):Prop
 | mk (a C dx:Addr)(fs:List (Str×V))(h1:x=.ref a)(h2:H2 a=some (.ins C dx fs))(h3:Cls K C)(h4:dB K C f)(h5:fs.length<1000)(q:R (upd H2 a (.ins C dx (eY f y fs))))
def aVy (K:xAb)(ta tv:TE)(f:Str):TS:=λD σ H=>tv σ H λy H1=>ta σ H1 λx H2=>aUa K f x y H2 (D.nx σ)

section
variable {X:Cx}{o e value:Expr}{f:Str}{pos pos' tpos:Pos}{ta tv:TE}
theorem bZ (he:PE X e ta)(hb:attributeBase e f X.env (eval e X.env)=eval e X.env):PE X (.Attribute e f pos) (aPs X.K ta f):=by
 intro pins s σ H Q I h;refine aNy hb (thn (he pins s σ H _ I h) λu s1 ⟨x,H1,I1,rx,a,C,dx,fs,v,ex,ea,c,n,l,q⟩=>?_);subst ex;obtain rfl:u=Value.ref a:=rx;exact aBl I1 ea c n l λu' s2 I2 ru=>⟨v,H1,I2,ru,q⟩
theorem fX (ha:PE X o ta)(hv:PE X value tv)(hs:swapsWith value (some (.Attribute o f pos')) pos.line X.env=pure false):PS X (.Assign [.Attribute o f pos'] value pos) (aVy X.K ta tv f):=by
 intro pins s σ H D I h;refine plainObj_wpAny_Assign_Attribute (thn (hv pins s σ H _ I h) λu s1 ⟨y,H1,I1,ry,q⟩=>thn (ha pins s1 σ H1 _ I1 q) λov s2 ⟨x,H2,I2,rx,a,C,dx,fs,ex,ea,c,n,l,q2⟩=>?_) hs;subst ex;obtain rfl:ov=Value.ref a:=rx;exact zV I2 ea c n l ry λs3 I3=>⟨σ,_,I3,q2⟩

end

section
variable {X:Cx}{pins:xPn}{σ:St}{H:Hp}{s:Shared}{A:Around}{E:xVP}{Q:xVP}{c:Value}{b:Bool}
inductive jD (K:xAb)(H:Hp):V->Value->Prop where
 | non:jD K H .non (.type "NoneType")
 | bl (x:Bool):jD K H (.bl x) (.type "bool")
 | int (i:Int):jD K H (.int i) (.type "int")
 | str (x:Str):jD K H (.str x) (.type "str")
 | flt (x:UInt64):jD K H (.flt x) (.type "float")
 | lst {a:Addr}{xs:List V}(e:H a=some (.lst xs)):jD K H (.ref a) (.type "list")
 | frz {a:Addr}{o:Obj}{xs:List V}(e:H a=some (.frz o (.lst xs))):jD K H (.ref a) (.type "list")
 | tup {a:Addr}{xs:List V}(e:H a=some (.tup xs)):jD K H (.ref a) (.type "tuple")
 | dK {a:Addr}{kvs:List (Key×V)}(e:H a=some (.dK kvs)):jD K H (.ref a) (.type "dict")
 | dT {a:Addr}{kvs:List (List Key×V)}(e:H a=some (.dT kvs)):jD K H (.ref a) (.type "dict")
 | ins {a C dx:Addr}{fs:List (Str×V)}(e:H a=some (.ins C dx fs)) (cl:Cls K C) (ha:findIn K (.ref C) "__class__" = some (some (.builtin "object.__class__")))
   (hn:specialIn K (.builtin "object.__class__") "__get__" = some (some (.builtin "getset_descriptor.__get__")))(htk:takesIn K (.builtin "object.__class__")=some true)
   (hm:mroIn K C (.type "object")=some true):jD K H (.ref a) (.ref C)
theorem aFs {x:V}{u t:Value}(I:Inv X pins σ H s)(rx:cC x u)(ty:jD X.K H x t)(e:kitOne X.K t c=some b)(h:∀ tk,Q (.bool b) { s with toks:=tk }) :
  wpAny (model X.prog X.w) A (call (.builtin "isinstance") [u,c]) Q E s:=by
 cases ty with
 | non=>cases (show u=Value.none from rx); exact xCg kitx_none I.kIn True.intro e (λz=>nomatch z) h
 | bl y=>cases (show u=Value.bool y from rx); exact xCg kitx_bool I.kIn True.intro e (λz=>nomatch z) h
 | int i=>obtain⟨t,q⟩:=(show ∃ t,u=Value.int i t from rx); cases q; exact xCg kitx_int I.kIn True.intro e (λz=>nomatch z) h
 | str y=>obtain⟨t,q⟩:=(show ∃ t,u=Value.str y t from rx); cases q; exact xCg kitx_str I.kIn True.intro e (λz=>nomatch z) h
 | flt y=>obtain⟨t,q⟩:=(show ∃ t,u=Value.float y t from rx); cases q; exact xCg kitx_float I.kIn True.intro e (λz=>nomatch z) h
 | @lst a xs ea=>
  cases (show u=Value.ref a from rx)
  obtain⟨_,_,n,_,h1⟩:=(show dA X.prog X.w H s.heap a (.lst xs) from I.hok a _ ea)
  exact xCg kitx_list I.kIn ⟨_,h1,rfl⟩ e (λz=>nomatch z) h
 | @frz a ob xs ea=>
  cases (show u=Value.ref a from rx)
  obtain⟨_,_,_,n,_,h1⟩:=(show dA X.prog X.w H s.heap a (.frz ob (.lst xs)) from I.hok a _ ea)
  exact xCg kitx_list I.kIn ⟨_,h1,rfl⟩ e (λz=>nomatch z) h
 | @tup a xs ea=>
  cases (show u=Value.ref a from rx)
  obtain⟨_,_,_,p⟩:=(show dA X.prog X.w H s.heap a (.tup xs) from I.hok a _ ea)
  obtain⟨o,h1,h2,_⟩:=p;exact xCg kitx_tuple I.kIn ⟨o,h1,h2⟩ e (λz=>nomatch z) h
 | @dK a kvs ea=>
  cases (show u=Value.ref a from rx)
  obtain⟨_,_,vs,_,p⟩:=(show dA X.prog X.w H s.heap a (.dK kvs) from I.hok a _ ea)
  obtain⟨o,es,ep,h1,h2,_⟩:=p;exact xCg kitx_dict I.kIn ⟨o,h1,h2.1⟩ e (λz=>nomatch z) h
 | @dT a kvs ea=>
  cases (show u=Value.ref a from rx)
  obtain⟨_,_,xs,_,o,es,ep,h1,h2,_⟩:=(show dA X.prog X.w H s.heap a (.dT kvs) from I.hok a _ ea)
  exact xCg kitx_dict I.kIn ⟨o,h1,h2.1⟩ e (λz=>nomatch z) h
 | @ins a C dx fs ea cl ha hn htk hm=>
  cases (show u=Value.ref a from rx)
  obtain⟨mA,O,_⟩:=qU I.hok ea;obtain⟨od,J,_⟩:=O.look;exact xCg (kitx_own (cl.get _) cl.hd ha hn htk hm) I.kIn J e (λz=>nomatch z) h
end

structure bY (k:Nat)(A:Around):Prop where
 hd:A.handled=none
 dp:A.depth+3*k+5<recursionLimit
 un:A.units+16*k+200<cLine
theorem bY.mono {j k:Nat}{A:Around}(r:bY k A)(h:j<=k):bY j A:=⟨r.hd,by have:=r.dp; omega,by have:=r.un; omega⟩
theorem bY.deeper {k:Nat}{A:Around}(r:bY (k+1) A)(env:Env):bY k (A.deeper env):=
 ⟨r.hd,by have:=r.dp; show A.depth+1+3*k+5<_; omega,by have:=r.un; show A.units+3+16*k+200<_; omega⟩
theorem aBc {A:Around}{C:Addr}{us:List Value}{kw:List (Str×Value)}:(A.under (.builtin "type.__call__" ⟨.ref C::us,kw⟩)).depth=A.depth+1:=by
 first | rfl | simp[Around.under,Code.weight,Code.isCreation,Code.isGuard,Code.isCaller,Code.frames,Code.isFrame,guardIds]
theorem aBb {A:Around}{C:Addr}{us:List Value}{kw:List (Str×Value)}:(A.under (.builtin "type.__call__" ⟨.ref C::us,kw⟩)).units=A.units+1:=by
 first | rfl | simp[Around.under,Code.cUnits,Code.frames,Code.isFrame]
theorem bY.make {k:Nat}{A:Around}(r:bY (k+1) A)(C:Addr)(us:List Value)(kw:List (Str×Value)):bY k (A.under (.builtin "type.__call__" ⟨.ref C::us,kw⟩)):=
 ⟨r.hd,by have:=r.dp; rw[aBc]; omega,by have:=r.un; rw[aBb]; omega⟩
theorem bY.depth {k:Nat}{A:Around}(r:bY k A):A.depth<recursionLimit:=by have:=r.dp; omega
theorem bY.units {k:Nat}{A:Around}(r:bY k A):A.units+64<cLine:=by have:=r.un; omega

def qF:TA:=λ_ H Q=>Q [] H
def iT (ta:TE)(tr:TA):TA:=λσ H Q=>ta σ H λx H1=>tr σ H1 λxs H2=>Q (x::xs) H2
section
variable {X:Cx}{e:Expr}{es:List Expr}{te:TE}{t:TA}{pos:Pos}
theorem aE:PA X [] qF:=λ_ _ _ _ H Q I h=>xGx ⟨[],H,I,.nil,h⟩
theorem iB (ha:PE X e te)(hr:PA X es t)(hs:starEach (e::es) X.env=(false,eval e X.env)::starEach es X.env:=by rfl):PA X (e::es) (iT te t):=by
 intro pos pins s σ H Q I h;rw[hs];show wpAny _ _ (spliced ((false,eval e X.env)::backTo pos (starEach es X.env))) _ _ s;refine xDm (thn (ha pins s σ H _ I h) λu s1 ⟨x,H1,I1,r1,q1⟩=>?_);exact thn (hr pos pins s1 σ H1 _ I1 q1) λus s2 ⟨xs,H2,I2,r2,q2⟩=>⟨x::xs,H2,I2,.cons r1 r2,q2⟩

def aPq (t:TA):TE:=λσ H Q=>t σ H λxs H1=>xs.length<=sizeLine/\∀ p,H1 p=none->Q (.ref p) (upd H1 p (.tup xs))
def aEd (t:TA):TE:=λσ H Q=>t σ H λxs H1=>xs.length<=sizeLine/\∀ p,H1 p=none->Q (.ref p) (upd H1 p (.lst xs))
theorem cU {x1}(h:PA X es t):PE X (.Tuple es x1 pos) (aPq t):=by
 intro pins s σ H Q I hq;refine wpAny_Tuple_spliced (thn (h pos pins s σ H _ I hq) λus s1 ⟨xs,H1,I1,r,z,q⟩=>⟨by rw[<- r.length]; exact z,?_⟩);have hf:H1 s1.heap.objs.size=none:=I1.hok.fresh (xAh _);refine⟨.ref s1.heap.objs.size,upd H1 s1.heap.objs.size (.tup xs),I1.laid (t':=s1.toks) (λb u e=>xAf _ e) (xAh _) ?_,rfl,q _ hf⟩;exact⟨z,us,r,⟨_,xAq _ rfl,rfl,_,rfl⟩⟩
theorem aV (h:PA X es t):PE X (.List es pos) (aEd t):=by
 intro pins s σ H Q I hq;refine wpAny_List_spliced (thn (h pos pins s σ H _ I hq) λus s1 ⟨xs,H1,I1,r,z,q⟩=>⟨by rw[<- r.length]; exact z,?_⟩);have hf:H1 s1.heap.objs.size=none:=I1.hok.fresh (xAh _);refine⟨.ref s1.heap.objs.size,upd H1 s1.heap.objs.size (.lst xs),I1.laid (t':=s1.toks) (λb u e=>xAf _ e) (xAh _) ?_,rfl,q _ hf⟩;exact⟨z,us,0,r,xAq _ rfl⟩
end

abbrev Sp:=List V->Hp->VK->XK->Prop
abbrev CXT:=List Env->Hp->Shared->XK->Value->Shared->Prop

structure pR (P:Program)(w:World)(K:xAb)(mg:xSO)(base:Heap)(A:Around)(outer:List Env)(s:Shared)(H:Hp):Prop where
 frames:A.frames=some outer
 mod:Mod K mg base
 bs:∀ b o,base.get? b=some o->s.heap.get? b=some o/\H b=none
 bsz:base.objs.size<=s.heap.objs.size
 funs:s.heap.FunFrames base outer
 frf:∀ b∈frs outer,H b=none
 hok:HOk P w H s.heap
 bare:AllBare s.gens
inductive CE (outer:List Env)(P:Program)(w:World)(H:Hp)(s:Shared)(Q:VK)(u:Value)(s':Shared):Prop
 | mk (v:_)(H':_)(h0_:s'.os=s.os)(h1_:AllBare s'.gens)(h2_:Un (frs outer) [] H H' s.heap s'.heap)(h3_:HOk P w H' s'.heap)(h4_:cC v u)(h5_:Q v H')
def CR (CX:CXT)(outer:List Env)(P:Program)(w:World)(H:Hp)(s:Shared)(Q:VK)(E:XK)(r:Result)(s':Shared):Prop:=
 match r with
 | .ok (.ret u)=>CE outer P w H s Q u s'
 | .ok _=>False
 | .error e=>CX outer H s E e s'
structure aP (P:Program)(w:World)(K:xAb)(mg:xSO)(base:Heap)(CX:CXT)(k:Nat)(f:Addr)(fd:FuncData)(ps:List Str)(sp:Sp):Prop where
 len:∀ vs H Q E,sp vs H Q E->vs.length=ps.length
 run:∀ (A:Around) (outer:List Env) (s:Shared) (H:Hp) (args:Args) (us:List Value) (vs:List V) (Q:VK) (E:XK),bY k A->pR P w K mg base A outer s H->BindsTo s fd args (ps.zip us)->bU vs us->sp vs H Q E ->
  codeAny (model P w) A (.call (.ref f) args) (CR CX outer P w H s Q E) s

theorem pR.make {P:Program}{w:World}{K:xAb}{mg:xSO}{base:Heap}{A:Around}{outer:List Env}{s:Shared}{H:Hp}(e:pR P w K mg base A outer s H)(C:Addr)(us:List Value)(kw:List (Str×Value)) :
  pR P w K mg base (A.under (.builtin "type.__call__" ⟨.ref C::us,kw⟩)) outer s H:=⟨by first | exact e.frames | (simpa [Around.under,Code.envs,Code.isFrame,pushEnvs] using e.frames),e.mod,e.bs,e.bsz,e.funs,e.frf,e.hok,e.bare⟩

section
variable {X:Cx}{pins:xPn}{σ:St}{H:Hp}{s s':Shared}
theorem Inv.env0 (I:Inv X pins σ H s):pR X.prog X.w X.K X.mg X.base X.A X.stack s H:=
 ⟨I.ok.frames,I.ok.mod,I.bs,xAs I.ok.bsz I.sz,I.stack,I.stkFree,I.hok,I.bare⟩
theorem Inv.after {Q:VK}{u:Value}(I:Inv X pins σ H s)(h:CE X.stack X.prog X.w H s Q u s'):EP X pins σ Q u s':=by
 obtain⟨v,H',os,bare,un,hok,r,q⟩:=h;obtain⟨hh,g,d,t,os'⟩:=s';obtain rfl:os'=s.os:=os;exact⟨v,H',I.call (h':=hh) (g':=g) (d':=d) (t':=t) (ch:=[]) un hok bare (λb z=>xAu z (by simp)),r,q⟩
end

def wZ (sp:Sp)(dvs:List V)(E:XK)(t:TA):TE:=λσ H Q=>t σ H λvs H1=>sp (vs++dvs) H1 Q E
inductive aRs (C:Addr)(m:Str)(x:V)(H1:Hp)(R:Prop):Prop
 | mk (a dx:Addr)(fs:List (Str×V))(h1:x=.ref a)(h2:H1 a=some (.ins C dx fs))(h3:fs.lookup m=none)(r:R)
def aGt (C:Addr)(m:Str)(sp:Sp)(dvs:List V)(E:XK)(ta:TE)(t:TA):TE:=λσ H Q=>ta σ H λx H1=>aRs C m x H1 (t σ H1 λvs H2=>sp (x::(vs++dvs)) H2 Q E)
def aOk (C:Addr)(sp:Sp)(dvs:List V)(E:XK)(t:TA):TE:=λσ H Q=>t σ H λvs H1=>∀ x dx,H1 x=none->H1 dx=none->dx≠x ->
 sp (.ref x::(vs++dvs)) (upd (upd H1 dx (.own x)) x (.ins C dx [])) (λv H2=>v=.non/\Q (.ref x) H2) E

def aS (K:xAb)(fd:FuncData)(ps:List Str)(ds:List Value):Prop:=
 ∀ (s:Shared) (us:List Value),K.In s.heap->(us++ds).length=ps.length->BindsTo s fd ⟨us,[]⟩ (ps.zip (us++ds))
theorem aS.all {K:xAb}{fd:FuncData}{ps:List Str}(h:∀ us:List Value,us.length=ps.length->bindArgs fd ⟨us,[]⟩=pure (ps.zip us)):aS K fd ps []:=λs us _ hl=>by
 rw[xBk] at hl ⊢;exact .of_eq (h us hl)

def eN (CX:CXT)(X:Cx)(E:XK):Prop:=∀ (pins:xPn) (σ:St) (H:Hp) (s:Shared) (e:Value) (s':Shared),Inv X pins σ H s->CX X.stack H s E e s'->X.xe e s'

section
variable {X:Cx}{CX:CXT}{k:Nat}{f C:Addr}{fd:FuncData}{ps:List Str}{sp:Sp}{dvs:List V}{ds:List Value}{E:XK}{x m:Str}{p pos apos:Pos}{e o:Expr}{es:List Expr}{ta:TE}{t:TA}

theorem aAg {pins:xPn}{σ:St}{H:Hp}{s:Shared}{Q:VK}{us:List Value}{vs:List V}(F:aP X.prog X.w X.K X.mg X.base CX k f fd ps sp)(hr:bY k X.A)(hb:aS X.K fd ps ds)(hd:bU dvs ds)(hx:eN CX X E)
  (I:Inv X pins σ H s)(r:bU vs us)(h:sp (vs++dvs) H Q E):wpAny (model X.prog X.w) X.A (call (.ref f) us) (EP X pins σ Q) X.xe s:=by
 have r2:bU (vs++dvs) (us++ds):=r.append hd;have hl:(us++ds).length=ps.length:=by rw[<- r2.length]; exact F.len _ _ _ _ h
 refine xFc (xDx (F.run X.A X.stack s H ⟨us,[]⟩ (us++ds) (vs++dvs) Q E hr I.env0 (hb s us I.kIn hl) r2 h) λr s' hq=>?_);cases r with
 | error e=>exact hx pins σ H s e s' I hq
 | ok fl=>
  cases fl with
  | ret u=>exact I.after hq
  | next=>exact False.elim hq
  | brk=>exact False.elim hq
  | cont=>exact False.elim hq

theorem aR (F:aP X.prog X.w X.K X.mg X.base CX k f fd ps sp)(hr:bY k X.A)(hg:Gl X x)(hm:X.mg x=some (.ref f))(hk:keepIn X.K (.ref f)=true)(hb:aS X.K fd ps ds)(hd:bU dvs ds)(hx:eN CX X E)
  (ha:PA X (e::es) t)(hdb:(x==("__debug__" : Str))=false:=by decide)(he:starEach (e::es) X.env=(false,eval e X.env)::starEach es X.env:=by rfl)(hpl:(backTo pos (starEach es X.env)).any (·.1)=false:=by rfl) :
  PE X (.Call (.Name x p) (e::es) [] pos) (wZ sp dvs E t):=by
 intro pins s σ H Q I h;refine xBz (fV I hg hm ?_ hdb);refine xCh (h₀:=X.base) I.ok.mod.kin hk (thn (ha pos pins s σ H _ I h) λus s1 ⟨vs,H1,I1,r,q⟩=>⟨I1.kIn,?_⟩) he hpl;exact aAg F hr hb hd hx I1 r q

theorem dQ {pl:Sem Bool}(he:PE X o ta)(c:Cls X.K C)(hm:eI X.K C m f)(F:aP X.prog X.w X.K X.mg X.base CX k f fd ps sp)(hr:bY k X.A)(hb:aS X.K fd ps ds)(hd:bU dvs ds)(hx:eN CX X E)(ha:PA X (e::es) t)
  (hst:starEach (e::es) X.env=(false,eval e X.env)::starEach es X.env:=by rfl)(hpl:(backTo pos (starEach es X.env)).any (·.1)=false:=by rfl)
  (ht:eval (.Call (.Attribute o m apos) (e::es) [] pos) X.env=(do
   let ov <- eval o X.env
   standAt apos.atName
   let (f,first) <- holding [ov] (getMethod ov m pl)
   callWith pos f first (backTo pos (starEach (e::es) X.env)) (backToKw pos (keywordEach [] X.env))):=by rfl) :
  PE X (.Call (.Attribute o m apos) (e::es) [] pos) (aGt C m sp dvs E ta t):=by
 intro pins s σ H Q I h;refine xDo (pl:=pl) (thn (he pins s σ H _ I h) λu s1 ⟨x,H1,I1,rx,a,dx,fs,ex,ea,l,q⟩=>?_) ht;subst ex;obtain rfl:u=Value.ref a:=rx;refine jX I1 ea c hm l ?_;refine xCh (first:=[.ref a]) (h₀:=X.base) I.ok.mod.kin hm.kp (thn (ha pos pins s1 σ H1 _ I1 q) λus s2 ⟨vs,H2,I2,r,q2⟩=>⟨I2.kIn,?_⟩) hst hpl;exact aAg (us:=.ref a::us) (vs:=.ref a::vs) F hr hb hd hx I2 (.cons rfl r) q2
theorem dP {pl:Sem Bool}(he:PE X o ta)(c:Cls X.K C)(hm:eI X.K C m f)(F:aP X.prog X.w X.K X.mg X.base CX k f fd ps sp)(hr:bY k X.A)(hb:aS X.K fd ps ds)(hd:bU dvs ds)(hx:eN CX X E)
  (ht:eval (.Call (.Attribute o m apos) [] [] pos) X.env=(do
   let ov <- eval o X.env
   standAt apos.atName
   let (f,first) <- holding [ov] (getMethod ov m pl)
   callWith pos f first (backTo pos (starEach [] X.env)) (backToKw pos (keywordEach [] X.env))):=by rfl) :
  PE X (.Call (.Attribute o m apos) [] [] pos) (aGt C m sp dvs E ta qF):=by
 intro pins s σ H Q I h;refine xDo (pl:=pl) (thn (he pins s σ H _ I h) λu s1 ⟨x,H1,I1,rx,a,dx,fs,ex,ea,l,q⟩=>?_) ht;subst ex;obtain rfl:u=Value.ref a:=rx;refine jX I1 ea c hm l ?_;exact callWith_K0 (first:=[.ref a]) I1.kIn hm.kp (aAg (us:=[.ref a]) (vs:=[.ref a]) F hr hb hd hx I1 (.cons rfl .nil) q)

structure Mk (K:xAb)(C f:Addr):Prop where
 makes:makesIn K C=true
 init:findIn K (.ref C) "__init__"=some (some (.ref f))
 fn:isFn K (.ref f)=true
 kp:keepIn K (.ref C)=true

theorem aHw {pins:xPn}{σ:St}{H:Hp}{s:Shared}{Q:VK}{us:List Value}{vs:List V}(M:Mk X.K C f)(F:aP X.prog X.w X.K X.mg X.base CX k f fd ps sp)(hr:bY (k+1) X.A)(hb:aS X.K fd ps ds)(hd:bU dvs ds)
  (hx:eN CX X E)(I:Inv X pins σ H s)(r:bU vs us)
  (h:∀ x dx,H x=none->H dx=none->dx≠x->sp (.ref x::(vs++dvs)) (upd (upd H dx (.own x)) x (.ins C dx [])) (λv H2=>v=.non/\Q (.ref x) H2) E) :
  wpAny (model X.prog X.w) X.A (call (.ref C) us) (EP X pins σ Q) X.xe s:=by
 have hq:=h (s.heap.objs.size+1) s.heap.objs.size (I.hok.fresh (xFi _)) (I.hok.fresh (xAh _)) (xBd (xFk _));have I2:=Inv.made (C:=C) I;have r2:bU (V.ref (s.heap.objs.size+1)::(vs++dvs)) (Value.ref (s.heap.objs.size+1)::(us++ds)):=.cons rfl (r.append hd)
 have hl:(Value.ref (s.heap.objs.size+1)::us++ds).length=ps.length:=by
  have e:=r2.length;rw[F.len _ _ _ _ hq] at e;exact e.symm
 refine xFc (yJ (f:=f) I.kIn M.makes M.init (xDy.mp M.fn) (xDx (F.run _ X.stack _ _ ⟨Value.ref (s.heap.objs.size+1)::us,[]⟩ (Value.ref (s.heap.objs.size+1)::(us++ds)) _ _ E (hr.make C us [])
  (I2.env0.make C us []) (hb _ (Value.ref (s.heap.objs.size+1)::us) I2.kIn hl) r2 hq) λr s' hq'=>?_))
 cases r with
 | error e=>exact hx pins σ _ _ e s' I2 hq'
 | ok fl=>
  cases fl with
  | ret u=>
   obtain⟨v,H',I3,rv,ev,q3⟩:=I2.after hq';subst ev;exact⟨rv,⟨V.ref (s.heap.objs.size+1),H',I3,rfl,q3⟩⟩
  | next=>exact False.elim hq'
  | brk=>exact False.elim hq'
  | cont=>exact False.elim hq'
theorem cL (M:Mk X.K C f)(F:aP X.prog X.w X.K X.mg X.base CX k f fd ps sp)(hr:bY (k+1) X.A)(hg:Gl X x)(hm:X.mg x=some (.ref C))(hb:aS X.K fd ps ds)(hd:bU dvs ds)(hx:eN CX X E)
  (ha:PA X (e::es) t)(hdb:(x==("__debug__" : Str))=false:=by decide)(he:starEach (e::es) X.env=(false,eval e X.env)::starEach es X.env:=by rfl)(hpl:(backTo pos (starEach es X.env)).any (·.1)=false:=by rfl) :
  PE X (.Call (.Name x p) (e::es) [] pos) (aOk C sp dvs E t):=by
 intro pins s σ H Q I h;refine xBz (fV I hg hm ?_ hdb);refine xCh (h₀:=X.base) I.ok.mod.kin M.kp (thn (ha pos pins s σ H _ I h) λus s1 ⟨vs,H1,I1,r,q⟩=>⟨I1.kIn,?_⟩) he hpl;exact aHw M F hr hb hd hx I1 r q
end

def PK (X:Cx)(kws:List Keyword)(t:TA):Prop:=
 ∀ (pos:Pos) (pins:xPn) (s:Shared) (σ:St) (H:Hp) (Q:List V->Hp->Prop),Inv X pins σ H s->t σ H Q->wpAny (model X.prog X.w) X.A (evalAll ((backToKw pos (keywordEach kws X.env)).map (·.2))) (AP X pins σ Q) X.xe s
section
variable {X:Cx}{CX:CXT}{k:Nat}{f C:Addr}{fd:FuncData}{ps ks:List Str}{sp:Sp}{E:XK}{x m:Str}{p pos apos kpos:Pos}{e o:Expr}{es:List Expr}{kws:List Keyword}{te ta:TE}{t tk:TA}{nm:Option Str}
theorem aQn:PK X [] qF:=λ_ _ _ _ H Q I h=>wpAny_evalAll_nil ⟨[],H,I,.nil,h⟩
theorem aMo (ha:PE X e te)(hr:PK X kws t):PK X (⟨nm,e,kpos⟩::kws) (iT te t):=by
 intro pos pins s σ H Q I h;show wpAny _ _ (evalAll ((do let v <- eval e X.env; standAt pos; pure v)::(backToKw pos (keywordEach kws X.env)).map (·.2))) _ _ s;refine wpAny_evalAll_cons (xAc (thn (ha pins s σ H _ I h) λu s1 ⟨x,H1,I1,r1,q1⟩=>xAc (xHr (xAl ?_))));exact thn (hr pos pins s1 σ H1 _ I1 q1) λus s2 ⟨xs,H2,I2,r2,q2⟩=>⟨x::xs,H2,I2,.cons r1 r2,q2⟩

variable {g:List Value->List Value->List Value}{gV:List V->List V->List V}
end

structure aO (N P:List Str)(sc:Scope):Prop where
 kind:sc.kind=.function
 co:sc.isCoroutine=false
 gen:sc.isGenerator=false
 nd:N.Nodup
 pre:N.take P.length=P
 par:∀ x∈P,sc.names.lookup x=some .local\/sc.names.lookup x=some .cell
 nofree:∀ y∈sc.names,y.2≠.free
theorem xfs {N P:List Str}{sc:Scope}(a:sc.kind=.function:=by rfl)(b:sc.isCoroutine=false:=by rfl)(c:sc.isGenerator=false:=by rfl)(d:N.Nodup:=by decide +kernel)(e:N.take P.length=P:=by rfl)(f:∀ x∈P,sc.names.lookup x=some .local\/sc.names.lookup x=some .cell:=by decide +kernel)(g:∀ y∈sc.names,y.2≠.free:=by decide +kernel):aO N P sc:=⟨a,b,c,d,e,f,g⟩

theorem uY {kindOf:Str->Option NameKind}{x:Str}:∀ {binds:List (Str×Value)}{m:xSO},(∀ v,(x,v)∉binds)->bindL kindOf binds m x=m x
 | [],_,_=>rfl
 | (n,v)::r,m,h=>by
  unfold bindL;rw[uY λw hw=>h w (xBi _ hw)];split
  ·have:x≠n:=by rintro rfl; exact h v xBm
   simp[this]
  ·rfl
theorem vA {kindOf:Str->Option NameKind}{x:Str}:∀ {binds:List (Str×Value)}{m:xSO},(∀ v,(x,v)∉binds)->bindC kindOf binds m x=m x
 | [],_,_=>rfl
 | (n,v)::r,m,h=>by
  unfold bindC;rw[vA λw hw=>h w (xBi _ hw)];split
  ·rfl
  ·have:x≠n:=by rintro rfl; exact h v xBm
   simp[this]
theorem uZ {kindOf:Str->Option NameKind}{x:Str}{v:Value}:∀ {P:List Str}{vs:List Value}{i:Nat}{m:xSO},P.Nodup->P[i]?=some x->vs[i]?=some v->kindOf x=some .local ->
  bindL kindOf (P.zip vs) m x=some v
 | [],_,_,_,_,h,_,_=>by simp at h
 | _::_,[],_,_,_,_,h,_=>by simp at h
 | p::P,w::vs,0,m,nd,h1,h2,hk=>by
  simp at h1 h2; subst h1; subst h2;show bindL kindOf ((p,w)::P.zip vs) m p=_;unfold bindL;rw[uY λv hv=>(xCi.mp nd).1 (xEq hv).1,xAz hk]
  simp
 | p::P,w::vs,i+1,m,nd,h1,h2,hk=>by
  show bindL kindOf ((p,w)::P.zip vs) m x=_;unfold bindL;exact uZ (i:=i) (xCi.mp nd).2 (by simpa using h1) (by simpa using h2) hk
theorem vB {kindOf:Str->Option NameKind}{x:Str}{v:Value}:∀ {P:List Str}{vs:List Value}{i:Nat}{m:xSO},P.Nodup->P[i]?=some x->vs[i]?=some v->kindOf x≠some .local ->
  bindC kindOf (P.zip vs) m x=some v
 | [],_,_,_,_,h,_,_=>by simp at h
 | _::_,[],_,_,_,_,h,_=>by simp at h
 | p::P,w::vs,0,m,nd,h1,h2,hk=>by
  simp at h1 h2; subst h1; subst h2;show bindC kindOf ((p,w)::P.zip vs) m p=_;unfold bindC;rw[vA λv hv=>(xCi.mp nd).1 (xEq hv).1,xAw hk]
  simp
 | p::P,w::vs,i+1,m,nd,h1,h2,hk=>by
  show bindC kindOf ((p,w)::P.zip vs) m x=_;unfold bindC;exact vB (i:=i) (xCi.mp nd).2 (by simpa using h1) (by simpa using h2) hk

def gM (N:List Str)(vs:List V):St:=vs.map some++List.replicate (N.length-vs.length) none

def jJ (CX:CXT)(P:Program)(w:World)(K:xAb)(mg:xSO)(base:Heap)(N:List Str)(qual:Str)(scope:Scope)(f:Addr)(cd:Value)(A:Around)(outer:List Env)(s:Shared)(H:Hp)(E:XK):Cx where
 prog:=P
 w:=w
 K:=K
 mg:=mg
 base:=base
 A:=A.deeper (envOfC qual scope s.heap.objs.size f cd)
 N:=N
 s₀:=s
 H₀:=H
 env:=envOfC qual scope s.heap.objs.size f cd
 outer:=outer
 stack:=envOfC qual scope s.heap.objs.size f cd::outer
 ex:=[]
 calm:=true
 fn:=λ_=>true
 pn:=[]
 xe:=λe s'=>wpAny (model P w) (A.deeper (envOfC qual scope s.heap.objs.size f cd)) (leaving (envOfC qual scope s.heap.objs.size f cd) e) (λ_ s''=>CX outer H s E e s'') (λe' s''=>CX outer H s E e' s'') s'

theorem yY {sc:Scope}{n:Nat}{x:Str}(h:sc.names.lookup x=some .cell):∃ c,(cellsFrom n sc.names []).lookup x=some c:=by
 have q:=xFm sc.names n [] (.inl h);exact xCr.mp q

theorem pM {CX:CXT}{P:Program}{w:World}{K:xAb}{mg:xSO}{base:Heap}{N ps:List Str}{qual:Str}{scope:Scope}{f:Addr}{cd:Value}{A:Around}{outer:List Env}{s s1:Shared}{H:Hp}{E:XK}{us:List Value}{vs:List V}
  (S:aO N ps scope)(hd:A.handled=none)(e0:pR P w K mg base A outer s H)(hl:vs.length=ps.length)(r:bU vs us)
  (x:InCallC s s.heap.objs.size (bindL (envOfC qual scope s.heap.objs.size f cd).kindOf (ps.zip us) λ_=>none) (cellsFrom (s.heap.objs.size+1) scope.names []) (bindC (envOfC qual scope s.heap.objs.size f cd).kindOf (ps.zip us) λ_=>none) s1) :
  Inv (jJ CX P w K mg base N qual scope f cd A outer s H E) [] (gM N vs) H s1:=by
 have hpl:ps.length<=N.length:=by have:=congrArg List.length S.pre; rw[xBb] at this; omega
 obtain⟨h1,tk,rfl,hk⟩:=x.done;have noA:∀ b:Addr,b∉(jJ CX P w K mg base N qual scope f cd A outer s H E).ex:=λb z=>xAu (show b∈([]:List Addr) from z) (by simp)
 refine⟨⟨e0.mod,S.kind,rfl,rfl,xAh _,λy z c h1 h2=>?_,λy hy=>?_,λy c _ h=>?_,λ_=>hd,Around.frames_deeper e0.frames,.inr ⟨rfl,rfl⟩,λb z=>xAu z (noA b),e0.bs,e0.bsz,λb _ _=>noA b,λb z=>xAu z (noA b),e0.funs,e0.frf⟩,
  rfl,e0.bare,Un.kept hk,⟨_,x.toInCall.ns,λi y v h1 h2 h3=>?_⟩,λy c h=>⟨_,x.cell y c h⟩,e0.hok.fresh (xAh _),λy c h=>?_,λp hp=>xAu (show p∈([]:xPn) from hp) (by simp),e0.hok.kept hk,?_⟩
 ·exact name_of_addr x.apart (PySem.mem_of_lookup h1) (PySem.mem_of_lookup h2)
 ·have hy:scope.names.lookup y=some .cell\/scope.names.lookup y=some .free:=hy;rcases hy with hy | hy
  ·exact yY hy
  ·exact xAu rfl (S.nofree _ (PySem.mem_of_lookup hy))
 ·exact xEg (x.above y c (PySem.mem_of_lookup h))
 ·have hi:i<vs.length:=by
   unfold gM at h2
   by_cases hi:i<vs.length
   ·exact hi
   ·rw[xCb (by simpa using hi)] at h2;rw[xHy] at h2;split at h2 <;> cases h2
  have ha:vs[i]?=some v:=by
   unfold gM at h2;rw[xBw (by simpa using hi),xAj] at h2;cases e:vs[i]? with
   | none=>rw[e] at h2; cases h2
   | some a=>rw[e] at h2; cases h2; rfl
  obtain⟨u,hu,rv⟩:=r.get ha
  have hp:ps[i]?=some y:=by
   rw[<- S.pre,List.getElem?_take_of_lt (by omega)]; exact h1
  have ndP:ps.Nodup:=by rw[<- S.pre]; exact S.nd.sublist (xGv _ _)
  refine⟨u,rv,?_⟩;rcases S.par y (xBe hp) with k | k
  ·exact .inl ⟨k,uZ ndP hp hu k⟩
  ·obtain⟨c,e⟩:=yY (n:=s.heap.objs.size+1) k;refine .inr ⟨.inl k,c,e,?_⟩;have q:=x.cell y c e;rw[vB ndP hp hu (by show scope.names.lookup y≠_; rw[k]; decide)] at q;exact q
 ·exact e0.hok.fresh (xEg (x.above y c (PySem.mem_of_lookup h)))
 ·unfold gM;show _=N.length;rw[xAn,xAa,xDq];omega

theorem aDn {CX:CXT}{P:Program}{w:World}{K:xAb}{mg:xSO}{base:Heap}{k:Nat}{f:Addr}{name qual:Str}{params:Arguments}{body:List Stmt}{scope:Scope}{dV kV doc pm cdv ct oc:Value}{an od:Option Addr}
  {osl:xAO}{N ps:List Str}{sp:Sp}(lk:K.lookup f=some ⟨oc,od,.func (fnOf name qual params body scope dV kV doc pm an cdv ct),osl⟩) (hcd:codeIn K cdv qual=true) (S:aO N ps scope)
  (len:∀ vs H Q E,sp vs H Q E->vs.length=ps.length)
  (hbody:∀ (A:Around) (outer:List Env) (s:Shared) (H:Hp) (vs:List V) (Q:VK) (E:XK),bY k (A.deeper (envOfC qual scope s.heap.objs.size f cdv))->sp vs H Q E ->
   ∃ t,PSs (jJ CX P w K mg base N qual scope f cdv A outer s H E) body t/\t { nx:=λ_ H'=>Q .non H',rt:=Q } (gM N vs) H) :
  aP P w K mg base CX (k+1) f (fnOf name qual params body scope dV kV doc pm an cdv ct) ps sp:=by
 refine⟨len,λA outer s H args us vs Q E hr e0 hb r hsp=>?_⟩;have hl:=len _ _ _ _ hsp;have KX:K.In s.heap:=e0.mod.kin.keeps λb o e=>(e0.bs b o e).1;have lim:s.heap.NoLimit:=e0.mod.nolimit.keeps λb o e=>(e0.bs b o e).1
 have hkind:∀ y∈ps.zip us,scope.names.lookup y.1=some .local\/(scope.names.lookup y.1=some .cell/\((cellsFrom (s.heap.objs.size+1) scope.names []).lookup y.1).isSome=true):=λ⟨n,v⟩ hy=>by
  rcases S.par n (xEq hy).1 with q | q
  ·exact .inl q
  ·exact .inr ⟨q,xFm _ _ _ (.inl q)⟩
 refine xFp hr.depth (KX _ _ lk) rfl S.co S.gen rfl (codeRec_of KX hcd) (hb _ _ _ _ ?_);refine xEv S.kind hkind λenv he s1 x=>?_;subst he;refine⟨lim.keeps x.toInCall.keep,xIl ?_⟩;obtain⟨t,ht,hq⟩:=hbody A outer s H vs Q E (hr.deeper _) hsp;have I:Inv (jJ CX P w K mg base N qual scope f cdv A outer s H E) [] (gM N vs) H s1:=pM S hr.hd e0 hl r x;refine xCj (ht [] s1 (gM N vs) H _ I hq) (λfl s' hs=>?_) λe s' hs=>hs
 have fin:∀ {σ':St}{H':Hp}{v:V}{u:Value},Inv (jJ CX P w K mg base N qual scope f cdv A outer s H E) [] σ' H' s'->cC v u->Q v H'->CE outer P w H s Q u s':=
  λ{σ' H' v u} J rv q=>⟨v,H',J.os,J.bare,J.base,J.hok,rv,q⟩
 cases fl with
 | ret u=>
  obtain⟨v,σ',H',J,rv,q⟩:=hs;exact fin J rv q
 | next=>
  obtain⟨σ',H',J,q⟩:=hs;exact fin (v:=V.non) (u:=Value.none) J rfl q
 | brk=>
  obtain⟨_,_,_,q⟩:=hs;exact False.elim q
 | cont=>
  obtain⟨_,_,_,q⟩:=hs;exact False.elim q
section
variable {X:Cx}{x:Str}{p pos:Pos}{e:Expr}{es:List Expr}{t:TA}{id T:String}{r:List V->Hp->VK->Prop}

def tCB (r:List V->Hp->VK->Prop)(t:TA):TE:=λσ H Q=>t σ H λvs H1=>r vs H1 Q
theorem bV (hc:CallR X (.builtin id) r)(hg:Gl X x)(hm:X.mg x=none)(hv:bootBuiltins x=some (.builtin id))(ha:PA X (e::es) t)(hn:x≠"__name__" := by decide)(hdb:(x==("__debug__" : Str))=false:=by decide)
  (he:starEach (e::es) X.env=(false,eval e X.env)::starEach es X.env:=by rfl)(hpl:(backTo pos (starEach es X.env)).any (·.1)=false:=by rfl):PE X (.Call (.Name x p) (e::es) [] pos) (tCB r t):=by
 intro pins s σ H Q I h;refine xBz (mV I hg hm hv ?_ hn hdb);exact PyProof.Rows.callWith_builtin1 (thn (ha pos pins s σ H _ I h) λus s1 ⟨vs,H1,I1,r1,q1⟩=>hc pins s1 σ H1 vs us Q I1 r1 q1) he hpl
theorem jF (hc:CallR X (.type T) r)(hg:Gl X x)(hm:X.mg x=none)(hv:bootBuiltins x=some (.type T))(ha:PA X (e::es) t)(hn:x≠"__name__" := by decide)(hdb:(x==("__debug__" : Str))=false:=by decide)
  (he:starEach (e::es) X.env=(false,eval e X.env)::starEach es X.env:=by rfl)(hpl:(backTo pos (starEach es X.env)).any (·.1)=false:=by rfl):PE X (.Call (.Name x p) (e::es) [] pos) (tCB r t):=by
 intro pins s σ H Q I h;refine xBz (mV I hg hm hv ?_ hn hdb);exact xDp (thn (ha pos pins s σ H _ I h) λus s1 ⟨vs,H1,I1,r1,q1⟩=>hc pins s1 σ H1 vs us Q I1 r1 q1) he hpl
end
end L2
namespace HT
open PySem PyProof.Rows



section
open PySem.SeqAt
open PySem.AutoSeq1 (wpAny_loadPart')
open PySem.MeetsSeq PySem.MeetsSeq2 PySem.MeetsSeq3

end

section
variable {prog:Program}{w:World}{A:Around}{E:xVP}{s:Shared}


theorem cat_tup {t b:Addr}{vs ws:List Value}{Q:xVP}(ht:IsTup s.heap t vs.toArray)(hb:IsTup s.heap b ws.toArray)(hv:vs≠[])
  (h1:ws=[]->Q (.ref t) s)(h2:ws≠[]->Q (.ref s.heap.objs.size) { s with heap:=s.heap.push { cls:=.type "tuple",data:=.seq (vs++ws).toArray } })
  (hsz:vs.length+ws.length<=sizeLine):wpAny (model prog w) A (binaryOp .Add (.ref t) (.ref b)) Q E s:=by
 obtain⟨⟨cls,dd,data,sl⟩,ho,hc,n,hd⟩:=id ht;obtain⟨⟨cls2,dd2,data2,sl2⟩,ho2,hc2,n2,hd2⟩:=id hb;simp only at hc hd hc2 hd2;subst hc hd hc2 hd2;have e:vs.toArray++ws.toArray=(vs++ws).toArray:=by simp
 by_cases hw:ws=[]
 ·exact concat_meets ⟨_,ho,rfl⟩ ⟨_,ho2,rfl⟩ noFill_tuple_add seq_tuple_add PySem.F.slot_tuple_add PySem.F.entry_tuple_add (PySem.F.args_tuple_add_2 _ _)
   (tuple_addW1 t b vs.toArray ws.toArray n n2 dd dd2 sl sl2 (by simpa using hv) (by simp[hw])) ⟨ho,ho2,h1 hw⟩
 ·refine concat_meets ⟨_,ho,rfl⟩ ⟨_,ho2,rfl⟩ noFill_tuple_add seq_tuple_add PySem.F.slot_tuple_add PySem.F.entry_tuple_add (PySem.F.args_tuple_add_2 _ _)
   (tuple_addW2 t b vs.toArray ws.toArray n n2 dd dd2 sl sl2 (by simpa using hv) (by simpa using hw) (by rw[List.size_toArray,List.size_toArray]; exact hsz)) ⟨ho,ho2,?_⟩
  rw[e];exact h2 hw

def sIx (n d:Nat):Option Int->Nat
 | none=>d
 | some v=>if v<0 then (v+(n:Int)).toNat else min v.toNat n
theorem sIx_none (n d:Nat):sIx n d none=d:=rfl
theorem sIx_nat (n d k:Nat):sIx n d (some (k:Int))=min k n:=by
 show (if (k:Int)<0 then ((k:Int)+(n:Int)).toNat else min (k:Int).toNat n)=min k n
 rw[if_neg (by omega),Int.toNat_natCast]
theorem aQj (n d:Nat)(hd:d<=n)(o:Option Int):sIx n d o<=n:=by
 cases o with
 | none=>exact hd
 | some v=>
  show (if v<0 then (v+(n:Int)).toNat else min v.toNat n)<=n
  by_cases hv:v<0
  ·rw[if_pos hv]; omega
  ·rw[if_neg hv]; exact Nat.min_le_right _ _
theorem aDt (v:Int)(n d:Nat):(if v<0 then max (v+(n:Int)) 0 else min v (n:Int))=((sIx n d (some v):Nat):Int):=by
 show (if v<0 then max (v+(n:Int)) 0 else min v (n:Int))=(((if v<0 then (v+(n:Int)).toNat else min v.toNat n):Nat):Int)
 by_cases hv:v<0
 ·simp only[if_pos hv]; omega
 ·simp only[if_neg hv]; omega
theorem aBt (lo hi:Option Int)(n:Nat):Builtin.Slice.sliceAdjust lo hi 1 (n:Int)=(((sIx n 0 lo:Nat):Int),((sIx n n hi:Nat):Int)):=by
 have h1:¬ ((1:Int)<0):=by omega
 unfold Builtin.Slice.sliceAdjust;simp only[h1,if_false];refine Prod.ext ?_ ?_
 ·cases lo with
  | none=>rfl
  | some v=>exact aDt v n 0
 ·cases hi with
  | none=>rfl
  | some v=>exact aDt v n n
theorem aAj (i j:Nat):Builtin.Slice.slicePlaces (i:Int) (j:Int) 1=j-i:=by
 unfold Builtin.Slice.slicePlaces;have h1:(1:Int)>0:=by omega
 simp only[h1,if_true,Int.ediv_one];split <;> omega
theorem rL {v:Value}{o:Option Int}{Q:Option Int->Shared->Prop}(p:IsPart v o)(h:Q o s):wpAny (model prog w) A (Builtin.Slice.slicePartIndex v) Q E s:=by
 cases p with
 | none=>exact slicePart_none h
 | int i t=>exact slicePart_int h
theorem oW {sl:Addr}{vl vu:Value}{lo hi:Option Int}{n:Nat}{Q:Int×Int×Nat->Shared->Prop}(hs:s.heap.IsSliceOf sl vl vu .none)(pl:IsPart vl lo)(pu:IsPart vu hi)
  (h:Q (((sIx n 0 lo:Nat):Int),1,sIx n n hi-sIx n 0 lo) s):wpAny (model prog w) A (Builtin.Slice.sliceApplied (.ref sl) (pure (n:Int))) Q E s:=by
 obtain⟨os,hos,hcs,hds⟩:=id hs;unfold Builtin.Slice.sliceApplied Builtin.Slice.sliceFields;refine wpAny_bind (wpAny_bind (wpAny_field hos hds (x:=vl) rfl (wpAny_bind (wpAny_field hos hds (x:=vu) rfl (wpAny_bind (wpAny_field hos hds (x:=.none) rfl (wpAny_pure ?_)))))));refine wpAny_bind (slicePart_none ?_);show wpAny _ _ (if ((1:Int)==0)=true then _ else _) _ _ s
 rw[if_neg (by decide)];refine wpAny_bind (rL pl (wpAny_bind (rL pu (wpAny_bind (wpAny_pure ?_)))));show wpAny _ _ (match Builtin.Slice.sliceAdjust lo hi 1 (n:Int) with | (lo,hi)=>pure (lo,(1:Int),Builtin.Slice.slicePlaces lo hi 1)) _ _ s
 rw[aBt lo hi n];show wpAny _ _ (pure (((sIx n 0 lo:Nat):Int),(1:Int),Builtin.Slice.slicePlaces ((sIx n 0 lo:Nat):Int) ((sIx n n hi:Nat):Int) 1)) _ _ s;rw[aAj];exact wpAny_pure h
theorem aIe (xs:Array Value)(i k:Nat):((List.range k).filterMap λ(m:Nat)=>xs[((i:Int)+(m:Int)*1).toNat]?).toArray=((xs.toList.drop i).take k).toArray:=by
 have e:(λ(m:Nat)=>xs[((i:Int)+(m:Int)*1).toNat]?)=λm=>xs[i+m]?:=by
  funext m
  have:((i:Int)+(m:Int)*1).toNat=i+m:=by omega
  rw[this]
 rw[e]
 have:=pick_run xs i k
 rw[List.filterMap_map] at this;have e2:((λx=>xs[x]?)∘λx=>i+x)=λm=>xs[i+m]?:=rfl;rw[e2] at this;rw[this]

theorem getItem_tuple_cut {t sl:Addr}{items:Array Value}{vl vu:Value}{lo hi:Option Int}{Q:xVP}(ht:IsTup s.heap t items)(hs:s.heap.IsSliceOf sl vl vu .none)(pl:IsPart vl lo)(pu:IsPart vu hi)
  (hw:¬ (sIx items.size 0 lo=0/\sIx items.size items.size hi=items.size))
  (h:Q (.ref s.heap.objs.size) { s with heap:=s.heap.push { cls:=.type "tuple",data:=.seq ((items.toList.drop (sIx items.size 0 lo)).take (sIx items.size items.size hi-sIx items.size 0 lo)).toArray } })
  (hsz:items.size<=sizeLine):wpAny (model prog w) A (getItem (.ref t) (.ref sl)) Q E s:=by
 have htake:sizeOk (.seq ((items.toList.drop (sIx items.size 0 lo)).take (sIx items.size items.size hi-sIx items.size 0 lo)).toArray):=by
  show ((items.toList.drop (sIx items.size 0 lo)).take (sIx items.size items.size hi-sIx items.size 0 lo)).toArray.size<=sizeLine;rw[List.size_toArray,List.length_take,List.length_drop,Array.length_toList];omega
 have hj:sIx items.size items.size hi<=items.size:=aQj _ _ (Nat.le_refl _) hi;obtain⟨os,hos,hcs,hds⟩:=id hs;have hTs:s.TypeIs (.ref sl) "slice":=⟨os,hos,hcs⟩;unfold getItem
 try with_reducible refine wpAny_holding ?_
 first | refine wpAny_bind (wpAny_pure ?_) | skip
 refine wpAny_bind (wpAny_sequenceKey ht.typeIs (by decide) ?_)
 refine wpAny_bind (wpAny_callSpecial?_slot (name:=Str.ofString "__getitem__") ht.typeIs PyProof.Rows.slot_tuple_getitem
  (wpAny_call_entry PyProof.Rows.slot_tuple_getitem ht.typeIs entry_tuple_getitem ?_ (args_tuple_getitem _ _)))
 show wpAny _ _ (Builtin.Tuple.tupleItemsOf (.ref t)>>=_) _ _ s;refine wpAny_bind (tupleItemsOf_ ht ?_);refine wpAny_bind (wpAny_typeOf hTs ?_);rw[if_pos (by decide)];refine wpAny_bind (oW hs pl pu ?_)
 have hno:¬ ((((sIx items.size 0 lo:Nat):Int)==0&&(1:Int)==1&&(sIx items.size items.size hi-sIx items.size 0 lo)==items.size)=true):=by
  intro q;rw[Bool.and_eq_true,Bool.and_eq_true] at q;have q1:((sIx items.size 0 lo:Nat):Int)=0:=eq_of_beq q.1.1;have q2:sIx items.size items.size hi-sIx items.size 0 lo=items.size:=eq_of_beq q.2;exact hw ⟨by omega,by omega⟩
 show wpAny _ _ (if (((sIx items.size 0 lo:Nat):Int)==0&&(1:Int)==1&&(sIx items.size items.size hi-sIx items.size 0 lo)==items.size)=true then _ else _) _ _ s
 rw[if_neg hno,aIe]
 first
  | exact wpAny_bind (m:=Builtin.Tuple.tupleExact _) (wpAny_newObj_type (wpAny_pure ⟨_,rfl,wpAny_pure h⟩) htake)
  | exact wpAny_bind (m:=Builtin.Tuple.tupleExact _) (wpAny_newObj_type (wpAny_bind (wpAny_pure (wpAny_pure ⟨_,rfl,wpAny_pure h⟩))) htake)
  | exact wpAny_bind (wpAny_bind (m:=Builtin.Tuple.tupleExact _) (wpAny_newObj_type (wpAny_pure (wpAny_pure ⟨_,rfl,wpAny_pure h⟩)) htake))
  | exact wpAny_bind (wpAny_bind (m:=Builtin.Tuple.tupleExact _) (wpAny_newObj_type (wpAny_pure ⟨_,rfl,wpAny_pure h⟩) htake))
end
end HT
namespace L2
open PySem PySem.Spec PyProof.Rows PySem.W

abbrev TO:=St->Hp->(Option Int->Hp->Prop)->Prop
def PO (X:Cx)(e:Option Expr)(t:TO):Prop:=
 ∀ (pins:xPn) (s:Shared) (σ:St) (H:Hp) (Q:Option Int->Hp->Prop),Inv X pins σ H s->t σ H Q ->
  wpAny (model X.prog X.w) X.A (evalPart e X.env) (λu s'=>∃ o H',Inv X pins σ H' s'/\IsPart u o/\Q o H') X.xe s
def aCb:TO:=λ_ H Q=>Q none H
def aOj (t:TE):TO:=λσ H Q=>t σ H λx H1=>∃ i,x=.int i/\Q (some i) H1


section
variable {X:Cx}{e:Expr}{te:TE}{lo hi:Option Expr}{tl th:TO}{pos p2:Pos}

theorem jU:PO X none aCb:=by
 intro pins s σ H Q I h;rw[evalPart_none];exact xAl ⟨none,H,I,.none,h⟩
theorem jT (h:PE X e te):PO X (some e) (aOj te):=by
 intro pins s σ H Q I hw;rw[evalPart_some];refine thn (h pins s σ H _ I hw) λu s1 ⟨x,H1,I1,r1,q1⟩=>?_;obtain⟨i,rfl,q⟩:=q1;obtain⟨t,rfl⟩:=r1;exact⟨some i,H1,I1,.int i t,q⟩

def SlR (X:Cx)(r:V->Option Int->Option Int->Hp->VK->Prop):Prop:=
 ∀ (pins:xPn) (s:Shared) (σ:St) (H:Hp) (x:V) (v vl vu:Value) (lo hi:Option Int) (sl:Addr) (Q:VK),Inv X pins σ H s->cC x v->s.heap.IsSliceOf sl vl vu .none->IsPart vl lo->IsPart vu hi->r x lo hi H Q ->
  ∃ T id,typeLookup (.type T) "__getitem__"=pure (some (.builtin id))/\s.TypeIs v T/\wpAny (model X.prog X.w) X.A (getItem v (.ref sl)) (EP X pins σ Q) X.xe s
def tSl (r:V->Option Int->Option Int->Hp->VK->Prop)(te:TE)(tl th:TO):TE:=λσ H Q=>te σ H λx H1=>tl σ H1 λl H2=>th σ H2 λu H3=>r x l u H3 Q
theorem iL {r:V->Option Int->Option Int->Hp->VK->Prop}(hr:SlR X r)(he:PE X e te)(hl:PO X lo tl)(hu:PO X hi th):PE X (.Subscript e (.Slice lo hi none p2) pos) (tSl r te tl th):=by
 intro pins s σ H Q I h;refine Subscript_ (thn (he pins s σ H _ I h) λv s1 ⟨x,H1,I1,r1,q1⟩=>?_);refine wpAny_Slice (thn (hl pins s1 σ H1 _ I1 q1) λvl s2 ⟨l,H2,I2,pl,q2⟩=>thn (hu pins s2 σ H2 _ I2 q2) λvu s3 ⟨u,H3,I3,pu,q3⟩=>?_);rw[evalPart_none];refine xAl ?_;have I4:Inv X pins σ H3 { s3 with heap:=s3.heap.push { cls:=.type "slice",data:=.fields #[vl,vu,.none] } }:=I3.kept (t':=s3.toks) λb ob q=>xAf _ q;obtain⟨T,id,hT,ht,hg⟩:=hr pins { s3 with heap:=s3.heap.push { cls:=.type "slice",data:=.fields #[vl,vu,.none] } } σ H3 x v vl vu l u s3.heap.objs.size Q I4 r1 (Heap.IsSliceOf.new ..) pl pu q3;show wpAny (model X.prog X.w) X.A (subscriptTail e (.Slice lo hi none p2) v (.ref s3.heap.objs.size)) (EP X pins σ Q) X.xe { s3 with heap:=s3.heap.push { cls:=.type "slice",data:=.fields #[vl,vu,.none] } };exact tail_any (ops:=[.ref s3.heap.objs.size,v]) ht hT hg (by with_unfolding_all rfl)

def jZ (xs:List V)(lo hi:Option Int):List V:=(xs.drop (HT.sIx xs.length 0 lo)).take (HT.sIx xs.length xs.length hi-HT.sIx xs.length 0 lo)
theorem qC (xs:List V)(lo hi:Option Int):(jZ xs lo hi).length<=xs.length:=by
 unfold jZ;rw[xBb,xEk];omega
def aSr (K:xAb):V->Option Int->Option Int->Hp->VK->Prop:=λx lo hi H Q=>∃ a xs,x=.ref a/\SqT K H a xs /\
 ¬ (HT.sIx xs.length 0 lo=0/\HT.sIx xs.length xs.length hi=xs.length)/\∀ p,H p=none->Q (.ref p) (upd H p (.tup (jZ xs lo hi)))
theorem aHf:SlR X (aSr X.K):=by
 intro pins s σ H x v vl vu lo hi sl Q I rx hs pl pu h;obtain⟨a,xs,rfl,hx,hw,q⟩:=h;cases rx;obtain⟨its,r,ht,hz⟩:=I.tuple hx;have hlen:its.toArray.size=xs.length:=by rw[xAv]; exact r.length.symm
 refine⟨"tuple",_,PyProof.Rows.slot_tuple_getitem.lookup,ht.typeIs,?_⟩;refine HT.getItem_tuple_cut ht hs pl pu (by rw[hlen]; exact hw) ?_ (by rw[hlen]; exact hz);rw[hlen];refine⟨.ref s.heap.objs.size,_,I.laid (t':=s.toks) (o:=.tup (jZ xs lo hi)) (λb ob q=>xAf _ q) (xAh _) ?_,rfl,q _ (I.hok.fresh (xAh _))⟩;exact⟨xAs (qC xs lo hi) hz,_,(r.drop (HT.sIx xs.length 0 lo)).take (HT.sIx xs.length xs.length hi-HT.sIx xs.length 0 lo),IsTup.new _ _⟩

def aOv (K:xAb):R2:=λx y H Q=>∃ a b xs ys,x=.ref a/\y=.ref b/\SqT K H a xs/\SqT K H b ys/\xs≠[]/\xs.length+ys.length<=sizeLine /\
 (ys=[]->Q (.ref a) H)/\(ys≠[]->∀ p,H p=none->Q (.ref p) (upd H p (.tup (xs++ys))))
theorem bU.nil_iff {xs:List V}{us:List Value}(r:bU xs us):us=[]↔xs=[]:=by
 cases r with
 | nil=>simp
 | cons _ _=>simp
theorem aDe:OpR X (binaryOp .Add) (aOv X.K):=by
 intro pins s σ H x y v u Q I rx ry h;obtain⟨a,b,xs,ys,rfl,rfl,ha,hb,hx,hz,q1,q2⟩:=h;cases rx;cases ry;obtain⟨its,r1,p1,_⟩:=I.tuple ha;obtain⟨its2,r2,p2,_⟩:=I.tuple hb;refine HT.cat_tup p1 p2 (λz=>hx (r1.nil_iff.mp z)) (λz=>⟨.ref a,H,I,rfl,q1 (r2.nil_iff.mp z)⟩) (λz=>?_) (by rw[<- r1.length,<- r2.length]; exact hz);refine⟨.ref s.heap.objs.size,_,I.laid (t':=s.toks) (o:=.tup (xs++ys)) (λb ob q=>xAf _ q) (xAh _) ?_,rfl,q2 (λw=>z (r2.nil_iff.mpr w)) _ (I.hok.fresh (xAh _))⟩;exact⟨by rw[xAn]; exact hz,_,r1.append r2,IsTup.new _ _⟩
end

def ixN (n:Nat)(i:Int):Option Nat:=if 0<=i then (if i<n then some i.toNat else none) else if -(n:Int)<=i then some (i+n).toNat else none
def atI {α:Type}(xs:List α)(i:Int):Option α:=(ixN xs.length i).bind λj=>xs[j]?
theorem aNi {n:Nat}{i:Int}{j:Nat}(h:ixN n i=some j):seqIndex? i n=some j/\j<n/\-(n:Int)<=i/\i<n:=by
 unfold ixN at h
 by_cases h0:0<=i
 ·rw[xAz h0] at h
  by_cases h1:i<n
  ·rw[xAz h1] at h;have e:i.toNat=j:=xBj h;exact⟨by rw[seqIndex_of h0 h1,e],by omega,by omega,h1⟩
  ·rw[xAw h1] at h; cases h
 ·rw[xAw h0] at h
  by_cases h1:-(n:Int)<=i
  ·rw[xAz h1] at h;have e:(i+n).toNat=j:=xBj h;exact⟨by rw[seqIndex_neg (by omega) h1,e],by omega,h1,by omega⟩
  ·rw[xAw h1] at h; cases h
theorem wS {α:Type}{xs:List α}{i:Int}{v:α}(h:atI xs i=some v):∃ j,seqIndex? i xs.length=some j/\xs[j]?=some v/\j<xs.length/\-(xs.length:Int)<=i/\i<xs.length:=by
 unfold atI at h;cases e:ixN xs.length i with
 | none=>rw[e] at h; cases h
 | some j=>
  rw[e] at h;obtain⟨h1,h2,h3,h4⟩:=aNi e;exact⟨j,h1,h,h2,h3,h4⟩
theorem oM {α:Type}{xs:List α}{j:Nat}{v:α}(h:xs[j]?=some v):atI xs (j:Int)=some v:=by
 have hj:j<xs.length:=(xAd.mp h).1
 have e:ixN xs.length (j:Int)=some j:=by
  unfold ixN;rw[xAz (by omega),xAz (by omega)]; simp
 unfold atI; rw[e]; exact h

def aOd (b:Expr):Prop:=∀ o i,subscripted b false o i=operate [o,i] (getItem o i)
def IxR (X:Cx)(r:R2):Prop:=
 ∀ (value slice:Expr) (pins:xPn) (s:Shared) (σ:St) (H:Hp) (x y:V) (v u:Value) (Q:VK),Inv X pins σ H s->cC x v->cC y u->r x y H Q ->
  subscripted slice false v u=operate [v,u] (getItem v u)->wpAny (model X.prog X.w) X.A (subscriptTail value slice v u) (EP X pins σ Q) X.xe s
def MtR (X:Cx)(id:String)(r:V->List V->Hp->VK->Prop):Prop:=
 ∀ (pins:xPn) (s:Shared) (σ:St) (H:Hp) (x:V) (xs:List V) (v:Value) (us:List Value) (Q:VK),Inv X pins σ H s->cC x v->bU xs us->r x xs H Q ->
  wpAny (model X.prog X.w) X.A (call (.builtin id) (v::us)) (EP X pins σ Q) X.xe s
section
variable {X:Cx}{a b:Expr}{ta tb:TE}{pos:Pos}
theorem cQ {r:R2}(hr:IxR X r)(ha:PE X a ta)(hb:PE X b tb)(hs:aOd b):PE X (.Subscript a b pos) (tOp r ta tb):=by
 intro pins s σ H Q I h;exact Subscript_ (aRo ha hb I h λv u s2 x y H2 I2 rx ry q=>hr a b pins s2 σ H2 x y v u Q I2 rx ry q (hs _ _))

inductive aMj (K:xAb)(x:V)(y:V)(H:Hp)(Q:VK):Prop
 | mk (p:_)(xs:_)(i:_)(v:_)(h0_:x=.ref p)(h1_:y=.int i)(h2_:SqL K H p xs)(h3_:atI xs i=some v)(h4_:Q v H)
inductive aSs (K:xAb)(x:V)(y:V)(H:Hp)(Q:VK):Prop
 | mk (p:_)(xs:_)(i:_)(v:_)(h0_:x=.ref p)(h1_:y=.int i)(h2_:SqT K H p xs)(h3_:atI xs i=some v)(h4_:Q v H)
inductive aWd (x:V)(y:V)(H:Hp)(Q:VK):Prop
 | mk (z:_)(i:_)(c:_)(h0_:x=.str z)(h1_:y=.int i)(h2_:z.length<=sizeLine)(h3_:atI z.cps.toList i=some c)(h4_:Q (.str ⟨#[c]⟩) H)
theorem dD:IxR X (aMj X.K):=by
 intro value slice pins s σ H x y v u Q I rx ry h hs;obtain⟨p,xs,i,z,rfl,rfl,hq,he,q⟩:=h;cases rx;obtain⟨t,rfl⟩:=ry;obtain⟨its,r,pl,hz⟩:=I.list hq;obtain⟨j,h1,h2,h3,h4,h5⟩:=wS he;obtain⟨w,ew,rw'⟩:=r.get h2;have hl:=r.length;have hn:=pI;have fin:EP X pins σ Q w s:=⟨z,H,I,rw',q⟩
 by_cases h0:0<=i
 ·have hj:i.toNat=j:=by
   rw[seqIndex_of h0 h5] at h1;exact xBj h1
  exact item_listR pl.isList h0 (by omega) (by rw[hj]; simpa using ew) fin hs
 ·have hj:(i+(its.toArray.size:Int)).toNat=j:=by
   rw[seqIndex_neg (by omega) h4] at h1;rw[xAv,<- hl];exact xBj h1
  exact subscriptTail_builtinR (x:=w) pl.isList.typeIs slot_list_getitem.lookup
   (wpAny_getItem_list_neg (Q:=λr s'=>r=w/\EP X pins σ Q r s') pl.isList (by omega) (by rw[xAv] <;> omega) (by omega) (by rw[hj]; simpa using ew) ⟨rfl,fin⟩) hs
theorem dW:IxR X (aSs X.K):=by
 intro value slice pins s σ H x y v u Q I rx ry h hs;obtain⟨p,xs,i,z,rfl,rfl,hq,he,q⟩:=h;cases rx;obtain⟨t,rfl⟩:=ry;obtain⟨its,r,pl,hz⟩:=I.tuple hq;obtain⟨j,h1,h2,h3,h4,h5⟩:=wS he;obtain⟨w,ew,rw'⟩:=r.get h2;have hl:=r.length;have hn:=pI;have fin:EP X pins σ Q w s:=⟨z,H,I,rw',q⟩
 exact subscriptTail_builtinR (x:=w) pl.typeIs slot_tuple_getitem.lookup
  (getItem_tuple (j:=j) (Q:=λr s'=>r=w/\EP X pins σ Q r s') pl (by omega) (by omega) (by rw[xAv,<- hl]; exact h1) (by simpa using ew) ⟨rfl,fin⟩) hs
theorem aRf:IxR X aWd:=by
 intro value slice pins s σ H x y v u Q I rx ry h hs;obtain⟨z,i,c,rfl,rfl,hz,he,q⟩:=h;obtain⟨t,rfl⟩:=rx;obtain⟨t',rfl⟩:=ry;obtain⟨j,h1,h2,h3,h4,h5⟩:=wS he;have hl:z.cps.toList.length=z.length:=by simp[Str.length]
 rw[hl] at h1 h4 h5;have hn:=pI
 exact tail_any (typeIs_str s z t) slot_str_getitem.lookup (getItem_str (c:=c) (by
  have e1:decide (i < -(2^63:Int))=false:=xBc (by omega);have e2:decide (i≥2^63)=false:=xBc (by omega);rw[e1,e2,xHz]) (by rw[h1]; simpa using h2) ⟨.str ⟨#[c]⟩,H,I.tok _,⟨_,rfl⟩,q⟩) hs


theorem vK (lo hi:Option Int)(n:Nat):(sliceBounds lo hi none n).1=((HT.sIx n 0 lo:Nat):Int)/\(sliceBounds lo hi none n).2.1=((HT.sIx n n hi:Nat):Int)/\(sliceBounds lo hi none n).2.2=1:=by
 refine⟨?_,?_,rfl⟩
 ·cases lo with
  | none=>simp[sliceBounds,HT.sIx]
  | some i=>
   simp only[sliceBounds,HT.sIx,Option.getD_none,show (1:Int)>0 by decide,if_true]
   by_cases h:i<0
   ·simp only[h,if_true] <;> omega
   ·simp only[h,if_false] <;> omega
 ·cases hi with
  | none=>simp[sliceBounds,HT.sIx]
  | some i=>
   simp only[sliceBounds,HT.sIx,Option.getD_none,show (1:Int)>0 by decide,if_true]
   by_cases h:i<0
   ·simp only[h,if_true] <;> omega
   ·simp only[h,if_false] <;> omega
theorem tN (its:List Value)(lo hi:Option Int):slicePick its.toArray lo hi none=((its.drop (HT.sIx its.length 0 lo)).take (HT.sIx its.length its.length hi-HT.sIx its.length 0 lo)).toArray:=by
 obtain⟨h1,h2,h3⟩:=vK lo hi its.toArray.size;unfold slicePick;rw[h1,h2,h3];simp only[sliceRange_one,pick_run,List.size_toArray] <;> rfl
inductive aWa (K:xAb)(x:V)(lo hi:Option Int)(H:Hp)(Q:VK):Prop
 | mk (a:Addr)(xs:List V)(h1:x=.ref a)(h2:SqL K H a xs)(q:∀ p,H p=none->Q (.ref p) (upd H p (.lst (jZ xs lo hi))))
theorem nK:SlR X (aWa X.K):=by
 intro pins s σ H x v vl vu lo hi sl Q I rx hs pl pu h;obtain⟨a,xs,rfl,hx,q⟩:=h;cases rx;obtain⟨its,r,ht,hz⟩:=I.list hx;have hlen:=r.length;refine⟨"list",_,slot_list_getitem.lookup,ht.isList.typeIs,?_⟩;refine wpAny_getItem_list_slice ht.isList hs pl pu .none (by simp) ?_ (by rw[xAv] <;> omega)
 rw[tN,<- hlen];refine⟨.ref s.heap.objs.size,_,I.laid (t':=s.toks) (o:=.lst (jZ xs lo hi)) (λb ob q=>xAf _ q) (xAh _) ?_,rfl,q _ (I.hok.fresh (xAh _))⟩;exact⟨xAs (qC xs lo hi) hz,_,0,(r.drop (HT.sIx xs.length 0 lo)).take (HT.sIx xs.length xs.length hi-HT.sIx xs.length 0 lo),xAq _ rfl⟩

def qA:V->Bool
 | .non=>true
 | .bl _=>true
 | .int _=>true
 | .str _=>true
 | _=>false
def eqV:V->V->Bool
 | .non,.non=>true
 | .bl a,.bl b=>a==b
 | .bl a,.int b=>(if a then 1 else 0)==b
 | .int a,.bl b=>a==(if b then 1 else 0)
 | .int a,.int b=>a==b
 | .str a,.str b=>a==b
 | _,_=>false
theorem aRl {A:Around}{s:Shared}{y x:V}{u v:Value}(ry:cC y u)(rx:cC x v)(fy:qA y=true)(fx:qA x=true):SeqAt.EqAt A s u v (eqV y x):=by
 cases y with
 | non=>
  cases ry;cases x with
  | non=>cases rx; exact SeqAt.EqAt.same _
  | bl b=>cases rx; exact SeqAt.EqAt.none_bool b
  | int b=>obtain⟨t,rfl⟩:=rx; exact SeqAt.EqAt.none_int b t
  | str b=>obtain⟨t,rfl⟩:=rx; exact SeqAt.EqAt.none_str b t
  | _=>exact xAu (show false=true from fx) xAr
 | bl a=>
  cases ry;cases x with
  | non=>cases rx; exact SeqAt.EqAt.bool_none a
  | bl b=>cases rx; exact SeqAt.EqAt.bool_bool a b
  | int b=>obtain⟨t,rfl⟩:=rx; exact SeqAt.EqAt.bool_int a b t
  | str b=>obtain⟨t,rfl⟩:=rx; exact SeqAt.EqAt.bool_str a b t
  | _=>exact xAu (show false=true from fx) xAr
 | int a=>
  obtain⟨t',rfl⟩:=ry;cases x with
  | non=>cases rx; exact SeqAt.EqAt.int_none a t'
  | bl b=>cases rx; exact SeqAt.EqAt.int_bool a t' b
  | int b=>obtain⟨t,rfl⟩:=rx; exact SeqAt.EqAt.int_int a t' b t
  | str b=>obtain⟨t,rfl⟩:=rx; exact SeqAt.EqAt.int_str a t' b t
  | _=>exact xAu (show false=true from fx) xAr
 | str a=>
  obtain⟨t',rfl⟩:=ry;cases x with
  | non=>cases rx; exact SeqAt.EqAt.str_none a t'
  | bl b=>cases rx; exact SeqAt.EqAt.str_bool a t' b
  | int b=>obtain⟨t,rfl⟩:=rx; exact SeqAt.EqAt.str_int a t' b t
  | str b=>obtain⟨t,rfl⟩:=rx; exact SeqAt.EqAt.str_str a t' b t
  | _=>exact xAu (show false=true from fx) xAr
 | _=>exact xAu (show false=true from fy) xAr
def eqU (x:V)(u:Value):Bool:=match u with
 | .none=>eqV .non x
 | .bool b=>eqV (.bl b) x
 | .int i _=>eqV (.int i) x
 | .str z _=>eqV (.str z) x
 | _=>false
theorem aKx {x y:V}{u:Value}(r:cC y u)(f:qA y=true):eqU x u=eqV y x:=by
 cases y with
 | non=>cases r; rfl
 | bl b=>cases r; rfl
 | int i=>obtain⟨t,rfl⟩:=r; rfl
 | str z=>obtain⟨t,rfl⟩:=r; rfl
 | _=>exact xAu (show false=true from f) xAr
theorem wT {x:V}:∀ {xs:List V}{us:List Value},bU xs us->xs.all qA=true->us.any (eqU x)=xs.any λy=>eqV y x
 | _,_,.nil,_=>rfl
 | y::xs,u::us,.cons r t,f=>by
  rw[xGq,xBh] at f;rw[xEc,xEc,aKx r f.1,wT t f.2]
theorem sL {A:Around}{s:Shared}{x:V}{v:Value}(rx:cC x v)(fx:qA x=true):∀ {xs:List V}{us:List Value},bU xs us->xs.all qA=true->∀ u∈us,SeqAt.EqAt A s u v (eqU x u)
 | _,_,.nil,_=>λu hu=>by cases hu
 | y::xs,u::us,.cons r t,f=>λu' hu=>by
  rw[xGq,xBh] at f;rcases xAk.mp hu with rfl | hu
  ·rw[aKx r f.1]; exact aRl r rx f.1 fx
  ·exact sL rx fx t f.2 u' hu
def inV (x:V)(xs:List V):Bool:=xs.any λy=>eqV y x
inductive rIn (K:xAb)(neg:Bool)(x:V)(y:V)(H:Hp)(Q:VK):Prop
 | mk (p:_)(xs:_)(h0_:y=.ref p)(h1_:(SqL K H p xs\/SqT K H p xs))(h2_:qA x=true)(h3_:xs.all qA=true)(h4_:Q (.bl (if neg then !inV x xs else inV x xs)) H)
theorem aEn:OpR X (compareOp .In) (rIn X.K false):=by
 intro pins s σ H x y v u Q I rx ry h;obtain⟨p,xs,rfl,hq,fx,fs,q⟩:=h;cases ry;rcases hq with hq | hq
 ·obtain⟨its,r,pl,hz⟩:=I.list hq;refine SeqAt.in_listAt (eqU x) pl.isList (λw hw=>sL rx fx r fs w (by simpa using hw)) ⟨.bl _,H,I,rfl,?_⟩;rw[show its.toArray.any (eqU x)=its.any (eqU x) by simp,wT r fs];exact q
 ·obtain⟨its,r,pl,hz⟩:=I.tuple hq;refine SeqAt.in_tupleAt (eqU x) pl (λw hw=>sL rx fx r fs w (by simpa using hw)) ⟨.bl _,H,I,rfl,?_⟩;rw[show its.toArray.any (eqU x)=its.any (eqU x) by simp,wT r fs];exact q

inductive aRr (K:xAb)(xs:List V)(H:Hp)(Q:VK):Prop
 | mk (p:_)(ys:_)(h0_:xs=[.ref p])(h1_:(SqL K H p ys\/SqT K H p ys))(h2_:Q (.int ys.length) H)
theorem cE:CallR X (.builtin "len") (aRr X.K):=by
 intro pins s σ H xs us Q I r h;obtain⟨p,ys,rfl,hq,q⟩:=h;obtain⟨u,rfl,rx⟩:=kH r;cases rx;have hn:=pI;rcases hq with hq | hq
 ·obtain⟨its,r',pl,hz⟩:=I.list hq;have hlen:=r'.length;exact Calls.call_len_list pl.isList (by simp only[List.size_toArray] <;> omega) ⟨.int ys.length,H,I.tok _,⟨s.toks+1,by rw[xAv,hlen]⟩,q⟩
 ·obtain⟨its,r',pl,hz⟩:=I.tuple hq;have hlen:=r'.length;exact len_tuple pl (by simp only[List.size_toArray] <;> omega) ⟨.int ys.length,H,I.tok _,⟨s.toks+1,by rw[xAv,hlen]⟩,q⟩
theorem wQ:CallR X (.builtin "len") (λxs H Q=>∃ z,xs=[.str z]/\z.length<=sizeLine/\Q (.int z.length) H):=by
 intro pins s σ H xs us Q I r h;obtain⟨z,rfl,hz,q⟩:=h;obtain⟨u,rfl,t,rfl⟩:=kH r;have hn:=pI;exact len_str (by omega) ⟨.int z.length,H,I.tok _,⟨_,rfl⟩,q⟩
inductive aRq (K:xAb)(xs:List V)(H:Hp)(Q:VK):Prop
 | mk (p:_)(ys:_)(h0_:xs=[.ref p])(h1_:(SqL K H p ys\/SqT K H p ys))(h2_:∀ l,H l=none->Q (.ref l) (upd H l (.lst ys)))
theorem oK:CallR X (.type "list") (aRq X.K):=by
 intro pins s σ H xs us Q I r h;obtain⟨p,ys,rfl,hq,q⟩:=h;obtain⟨u,rfl,rx⟩:=kH r;cases rx
 have fin:∀ (its:List Value),bU ys its->ys.length<=sizeLine->∀ (h':Heap) (c':Nat),(∀ b o',s.heap.get? b=some o'->h'.get? b=some o') ->
   h'.get? s.heap.objs.size=some { cls:=.type "list",dict:=none,data:=.seq its.toArray c',slots:=#[] }->EP X pins σ Q (.ref s.heap.objs.size) { s with heap:=h' }:=λits r' hz h' c' kp e=>
  ⟨.ref s.heap.objs.size,_,I.laid (t':=s.toks) kp (xAh _) (show dA X.prog X.w _ h' _ (.lst ys) from ⟨hz,its,c',r',e⟩),rfl,q _ (I.hok.fresh (xAh _))⟩
 rcases hq with hq | hq
 ·obtain⟨its,r',pl,hz⟩:=I.list hq;have hlen:=r'.length;obtain⟨o,ho,hc,n,hd⟩:=pl.isList;exact call_list_seq p (.inl rfl) ho hc hd (λh' c' kp e=>fin its r' hz h' c' kp e) (by simp only[List.size_toArray] <;> omega)
 ·obtain⟨its,r',pl,hz⟩:=I.tuple hq;have hlen:=r'.length;obtain⟨o,ho,hc,n,hd⟩:=pl;exact call_list_seq p (.inr rfl) ho hc hd (λh' c' kp e=>fin its r' hz h' c' kp e) (by simp only[List.size_toArray] <;> omega)
theorem mJ:CallR X (.type "tuple") (λxs H Q=>∃ p ys,xs=[.ref p]/\((SqL X.K H p ys/\∀ l,H l=none->Q (.ref l) (upd H l (.tup ys)))\/(SqT X.K H p ys/\Q (.ref p) H))):=by
 intro pins s σ H xs us Q I r h;obtain⟨p,ys,rfl,h⟩:=h;obtain⟨u,rfl,rx⟩:=kH r;cases rx;rcases h with⟨hq,q⟩ | ⟨hq,q⟩
 ·obtain⟨its,r',pl,hz⟩:=I.list hq;have hlen:=r'.length;refine call_tuple_list pl.isList (λh' kp=>?_) (by simp only[List.size_toArray] <;> omega)
  have I1:Inv X pins σ H { s with heap:=h' }:=I.kept (t':=s.toks) kp
  have I2:Inv X pins σ (upd H h'.objs.size (.tup ys)) { s with heap:=h'.push { cls:=.type "tuple",data:=.seq its.toArray } }:=
   I1.laid (t':=s.toks) (λb o e=>xAf _ e) (xAh _) (show dA X.prog X.w _ _ _ (.tup ys) from ⟨hz,its,r',IsTup.new _ _⟩)
  exact⟨.ref h'.objs.size,_,I2,rfl,q _ (I1.hok.fresh (xAh _))⟩
 ·obtain⟨its,r',pl,hz⟩:=I.tuple hq;exact call_tuple_same pl ⟨.ref p,H,I,rfl,q⟩

def tyV (K:xAb)(T:String)(x:V)(H:Hp):Prop:=match x with
 | .str _=>T="str"
 | .int _=>T="int"
 | .ref p=>(T="list" /\ ∃ xs,SqL K H p xs)\/(T="tuple" /\ ∃ o,K.lookup p=some o/\o.cls=.type "tuple" /\ o.dict=none) \/
   (T="dict" /\ ((∃ kvs,H p=some (.dK kvs))\/∃ kvs,H p=some (.dT kvs)))\/(T="set" /\ ∃ S n,H p=some (.set S n))
 | _=>False
theorem aPm {pins:xPn}{σ:St}{H:Hp}{s:Shared}{T:String}{x:V}{v:Value}(I:Inv X pins σ H s)(r:cC x v)(ty:tyV X.K T x H) :
  s.TypeIs v T/\∀ a,v=.ref a->∃ ob,s.heap.get? a=some ob/\ob.dict=none:=by
 cases x with
 | str z=>
  obtain⟨t,rfl⟩:=r;cases (show T="str" from ty)
  exact⟨typeIs_str s z t,λ_ e=>nomatch e⟩
 | int i=>
  obtain⟨t,rfl⟩:=r;cases (show T="int" from ty)
  exact⟨typeIs_int s i t,λ_ e=>nomatch e⟩
 | ref p=>
  cases r;rcases ty with⟨rfl,xs,hq⟩ | ⟨rfl,o,hk,hc,hd⟩ | ⟨rfl,hk⟩ | ⟨rfl,S,n,hk⟩
  ·obtain⟨its,_,pl,_⟩:=I.list hq;refine⟨pl.isList.typeIs,λa e=>?_⟩;cases e;obtain⟨o,n,e,c,hd,_⟩:=pl;exact⟨o,e,hd⟩
  ·refine⟨⟨o,I.kIn p o hk,hc⟩,λa e=>?_⟩;cases e;exact⟨o,I.kIn _ o hk,hd⟩
  ·have z:∃ o,s.heap.get? p=some o/\o.ExactDict:=by
    rcases hk with⟨kvs,hk⟩ | ⟨kvs,hk⟩
    ·obtain⟨_,_,_,_,o,_,_,e,ex,_⟩:=I.hok p _ hk;exact⟨o,e,ex⟩
    ·obtain⟨_,_,_,_,o,_,_,e,ex,_⟩:=I.hok p _ hk;exact⟨o,e,ex⟩
   obtain⟨o,e,ex⟩:=z;refine⟨⟨o,e,ex.1⟩,λa e2=>?_⟩;cases e2;exact⟨o,e,ex.2.1⟩
  ·obtain⟨o,_,_,_,e,ex,_⟩:=I.hok p _ hk;refine⟨⟨o,e,ex.1⟩,λa e2=>?_⟩;cases e2;exact⟨o,e,ex.2.1⟩
 | _=>exact False.elim ty
def tBM (K:xAb)(T:String)(r:V->List V->Hp->VK->Prop)(to:TE)(t:TA):TE:=λσ H Q=>to σ H λx H1=>tyV K T x H1/\t σ H1 λxs H2=>r x xs H2 Q
variable {o e:Expr}{es:List Expr}{to:TE}{t:TA}{name:Str}{apos cpos:Pos}{T id:String}{r:V->List V->Hp->VK->Prop}
theorem kU (pa:PlainAttrs T)(slot:Slot T name id)(hty:typeOf (.builtin id)=pure (.type "method_descriptor"))(hm:MtR X id r)(ho:PE X o to)(ha:PA X (e::es) t)
  (hbase:attributeBase o name X.env (eval o X.env)=eval o X.env:=by rfl)
  (hfew:((backTo cpos (starEach (e::es) X.env)).all (λx=>!x.1)&&(backToKw cpos (keywordEach [] X.env)).all (λx=>x.1.isSome)
   && decide ((e::es).length+([]:List Keyword).length+(if ([]:List Keyword).isEmpty then 0 else 1)<30))=true:=by rfl)
  (hline:(apos.endLine==cpos.line)=true:=by rfl)(hs:starEach (e::es) X.env=(false,eval e X.env)::starEach es X.env:=by rfl)(hplain:(backTo cpos (starEach es X.env)).any (·.1)=false:=by rfl) :
  PE X (.Call (.Attribute o name apos) (e::es) [] cpos) (tBM X.K T r to t):=by
 intro pins s σ H Q I h;refine wpAny_Call_method_late hbase hfew hline rfl (thn (ho pins s σ H _ I h) λv s1 ⟨x,H1,I1,r1,ty,q1⟩=>?_);obtain⟨h1,h2⟩:=aPm I1 r1 ty;refine⟨T,id,pa,slot,hty,h1,h2,?_⟩;have hA:=ha cpos pins s1 σ H1 _ I1 q1;rw[hs] at hA ⊢;refine xIg (by show (false||(backTo cpos (starEach es X.env)).any (·.1))=false; rw[hplain] <;> rfl) (xGf ?_)
 exact thn hA λus s2 ⟨vs,H2,I2,r2,q2⟩=>hm pins s2 σ H2 x vs v us Q I2 r1 r2 q2
/- xs.append(e),list.index on a module's tuple .. are MtR facts of 06m -/
end

def MtM (X:Cx)(id:String)(r:V->List V->Hp->VK->Prop):Prop:=
 ∀ (pins:xPn) (s:Shared) (σ:St) (H:Hp) (x:V) (xs:List V) (v:Value) (us:List Value) (Q:VK),Inv X pins σ H s->cC x v->bU xs us->r x xs H Q ->
  wpAny (model X.prog X.w) X.A (call (.builtin id) (v::us)) (EP X pins σ Q) X.xe s

theorem bU.one:∀ {x:V}{us:List Value},bU [x] us->∃ u,us=[u]/\cC x u
 | _,_,.cons r .nil=>⟨_,rfl,r⟩
theorem bU.rep {xs:List V}{us:List Value}(h:bU xs us):∀ k:Nat,bU (List.replicate k xs).flatten (List.replicate k us).flatten
 | 0=>.nil
 | k+1=>by
  rw[xDw,xDw,xFf,xFf];exact bU.append h (bU.rep h k)
theorem uV (its:List Value):∀ (k:Nat) (acc:List Value),
  List.foldl (λx1 x2=>x1++x2) acc.toArray (List.replicate k its.toArray)=(acc++(List.replicate k its).flatten).toArray
 | 0,acc=>by simp
 | k+1,acc=>by
  have e:acc.toArray++its.toArray=(acc++its).toArray:=by simp
  have e2:(acc++its)++(List.replicate k its).flatten=acc++(List.replicate (k+1) its).flatten:=by
   rw[xDw,xFf,List.append_assoc]
  rw[<- e2,<- uV its k (acc++its),<- e,xDw,xEs]

section
variable {X:Cx}{pins:xPn}{σ:St}{H:Hp}{s:Shared}{l b:Addr}{xs ys zs:List V}

theorem Inv.lset {its its':List Value}{n:Nat}{f:Array Value->Array Value}{t':Nat}(I:Inv X pins σ H s)(hH:H l=some (.lst xs))
  (e:s.heap.get? l=some { cls:=.type "list",data:=.seq its.toArray n })(hf:f its.toArray=its'.toArray)(hv:bU ys its')(hz:ys.length<=sizeLine) :
  Inv X pins σ (upd H l (.lst ys)) { s with heap:=s.heap.update l (Obj.mapSeq f),toks:=t' }:=by
 have q:=PySem.IsL.update e f;rw[hf] at q;refine I.write (x:=l) (e:=l) (by rw[hH]; exact trivial) (.inl rfl) (λb' u hb hu=>(xEd s.heap (Obj.mapSeq f) (Ne.symm hb)).trans hu) ⟨_,q⟩ ?_;exact⟨hz,its',_,hv,q⟩
theorem Inv.lnew {its:List Value}{t':Nat}(I:Inv X pins σ H s)(hv:bU ys its)(hz:ys.length<=sizeLine) :
  Inv X pins σ (upd H s.heap.objs.size (.lst ys)) { s with heap:=s.heap.push { cls:=.type "list",data:=.seq its.toArray },toks:=t' }:=
 I.laid (λ_ _ q=>xAf _ q) (xAh _) ⟨hz,its,0,hv,xAq _ rfl⟩
theorem Inv.fresh (I:Inv X pins σ H s):H s.heap.objs.size=none:=I.hok.fresh (xAh _)
theorem Inv.lstM (I:Inv X pins σ H s)(hH:H l=some (.lst xs)):xs.length<=sizeLine/\∃ (its:List Value) (n:Nat),bU xs its/\xs.length=its.length/\s.heap.get? l=some { cls:=.type "list",data:=.seq its.toArray n }:=by
 obtain⟨z,its,n,r,e⟩:=I.hok l _ hH;exact⟨z,its,n,r,r.length,e⟩

theorem yA {n:Nat}(h:n<=sizeLine):Builtin.List.listTooLong n=false:=by
 unfold Builtin.List.listTooLong;exact xBc (by omega)
end

section
variable {X:Cx}

def qP:V->List V->Hp->VK->Prop:=λx vs H Q=>∃ l xs y,x=.ref l/\vs=[y]/\H l=some (.lst xs)/\xs.length<sizeLine/\Q .non (upd H l (.lst (xs++[y])))
theorem iF:MtM X "list.append" qP:=by
 intro pins s σ H x vs v us Q I rx rv h;obtain⟨l,xs,y,rfl,rfl,hH,hz,q⟩:=h;cases rx;obtain⟨u,rfl,ru⟩:=rv.one;obtain⟨z,its,n,r,hl,e⟩:=I.lstM hH;refine call_meets F.slot_list_append ⟨_,e,rfl⟩ F.entry_list_append (F.args_list_append_2 _ _) (PySem.list_append l its.toArray n u (by rw[xAv]; omega)) ⟨e,?_⟩;refine⟨.non,_,I.lset (its':=its++[u]) hH e (by simp) (r.append (.cons ru .nil)) ?_,rfl,q⟩;rw[xAn,xFv];omega

def aMl:V->List V->Hp->VK->Prop:=λx vs H Q=>∃ l b xs zs,x=.ref l/\vs=[.ref b]/\H l=some (.lst xs)/\H b=some (.lst zs)/\xs.length+zs.length<=sizeLine/\Q .non (upd H l (.lst (xs++zs)))
theorem lQ:MtM X "list.extend" aMl:=by
 intro pins s σ H x vs v us Q I rx rv h;obtain⟨l,b,xs,zs,rfl,rfl,hH,hB,hz,q⟩:=h;cases rx;obtain⟨u,rfl,ru⟩:=rv.one;cases ru;obtain⟨z,its,n,r,hl,e⟩:=I.lstM hH;obtain⟨z2,its2,n2,r2,hl2,e2⟩:=I.lstM hB;have hsz:its.toArray.size+its2.toArray.size<=sizeLine:=by rw[xAv,xAv]; omega
 have hlong:¬ (!its.toArray.isEmpty&&Builtin.List.listTooLong (its.toArray.size+its2.toArray.size))=true:=by
  rw[yA hsz,Bool.and_false];exact xAr
 refine call_meets F.slot_list_extend ⟨_,e,rfl⟩ F.entry_list_extend (F.args_list_extend_2 _ _)
  (AutoSeq1.list_extend_list_list_0 l its.toArray n b its2.toArray n2 hlong (by rw[xAv]; omega) (by omega)) ⟨e,e2,?_⟩
 refine⟨.non,_,I.lset (its':=its++its2) hH e (by simp) (r.append r2) ?_,rfl,q⟩;rw[xAn];omega





inductive aWf (x:V)(y:V)(H:Hp)(Q:VK):Prop
 | mk (l:_)(b:_)(xs:_)(zs:_)(h0_:x=.ref l)(h1_:y=.ref b)(h2_:H l=some (.lst xs))(h3_:H b=some (.lst zs))(h4_:xs.length+zs.length<=sizeLine)(h5_:∀ p,H p=none->Q (.ref p) (upd H p (.lst (xs++zs))))
theorem aIo:OpR X (binaryOp .Add) aWf:=by
 intro pins s σ H x y v u Q I rx ry h;obtain⟨l,b,xs,zs,rfl,rfl,hH,hB,hz,q⟩:=h;cases rx;cases ry;obtain⟨z,its,n,r,hl,e⟩:=I.lstM hH;obtain⟨z2,its2,n2,r2,hl2,e2⟩:=I.lstM hB;refine PySem.P.add_list e e2 ?_ (by rw[xAv,xAv]; omega);have ea:its.toArray++its2.toArray=(its++its2).toArray:=by simp
 rw[ea];exact⟨.ref _,_,I.lnew (t':=s.toks) (r.append r2) (by rw[xAn]; omega),rfl,q _ I.fresh⟩
inductive aWb (x:V)(y:V)(H:Hp)(Q:VK):Prop
 | mk (l:_)(k:_)(xs:_)(h0_:x=.ref l)(h1_:y=.int k)(h2_:H l=some (.lst xs))(h3_:-(2^63)<=k)(h4_:k<2^63)(h5_:xs.length*k.toNat<=sizeLine)(h6_:∀ p,H p=none->Q (.ref p) (upd H p (.lst (List.replicate k.toNat xs).flatten)))
theorem aNe {α:Type}(xs:List α)(k:Nat):(List.replicate k xs).flatten.length=k*xs.length:=by
 induction k with
 | zero=>simp
 | succ k ih=>rw[xDw,xFf,xAn,ih,Nat.succ_mul,Nat.add_comm]
theorem aIm:OpR X (binaryOp .Mult) aWb:=by
 intro pins s σ H x y v u Q I rx ry h;obtain⟨l,k,xs,rfl,rfl,hH,h1,h2,hz,q⟩:=h;cases rx;obtain⟨t,rfl⟩:=ry;obtain⟨z,its,n,r,hl,e⟩:=I.lstM hH;have hlen:its.toArray.size*k.toNat<=sizeLine:=by rw[xAv,<- hl]; exact hz
 have hcap:¬ its.toArray.size*k.toNat>(2^63-1)/8:=by
  have:(sizeLine:Nat)<=(2^63-1)/8:=by decide
  omega
 have hfit:¬ (!Builtin.List.listFitsIndex k)=true:=by
  rw[fitsIndex_both h1 h2];exact xAr
 have hlong:¬ Builtin.List.listTooLong (its.toArray.size*k.toNat)=true:=by
  rw[yA hlen];exact xAr
 have hnew:List.foldl (λx1 x2=>x1++x2) #[] (List.replicate (if its.toArray.isEmpty=true then 0 else k.toNat) its.toArray)=(List.replicate k.toNat its).flatten.toArray:=by
  have f0:∀ m:Nat,List.foldl (λx1 x2=>x1++x2) #[] (List.replicate m its.toArray)=(List.replicate m its).flatten.toArray:=λm=>by
   have:=uV its m []
   rw[xHe] at this;exact this
  rw[f0];cases its with
  | nil=>simp
  | cons a r'=>rw[xAw (by simp)]
 refine wpAny_binaryOp_repeat_ref (T:="list") (U:="int") (by decide) ⟨_,e,rfl⟩ (λs'=>typeIs_int s' k t) noFill_list_mul F.fills_int_mul F.slot_int_rmul repeat_list F.slot_int_index.lookup
  (call_meets F.slot_int_rmul (typeIs_int s k t) F.entry_int_rmul (F.args_int_rmul_2 _ _) (int___rmul___int_list k t l its.toArray n)
   ⟨e,rfl,⟨_,e,rfl⟩,call_meets F.slot_list_mul ⟨_,e,rfl⟩ F.entry_list_mul (F.args_list_mul_2 _ _) (AutoListH.list___mul___list_int_3 l its.toArray n k t hfit hcap hlong) ⟨e,?_⟩⟩)
 rw[hnew];exact⟨.ref _,_,I.lnew (t':=s.toks) (r.rep k.toNat) (by rw[aNe,Nat.mul_comm]; exact hz),rfl,q _ I.fresh⟩

end

section
variable {prog:Program}{w:World}{A:Around}{E:xVP}{s:Shared}
set_option maxRecDepth 100000 in
end

section
variable {X:Cx}
end

section
variable {κ:Type} [DecidableEq κ]
def dE (kvs:List (κ×V))(k:κ):Option V:=(kvs.find? λkv=>decide (kv.1=k)).map (·.2)
def eX (kvs:List (κ×V))(k:κ)(v:V):List (κ×V):=
 if (kvs.any λkv=>decide (kv.1=k))=true then kvs.map (λkv=>if kv.1=k then (kv.1,v) else kv) else kvs++[(k,v)]

theorem eE {p:κ×V}{r:List (κ×V)}{k:κ}(e:p.1=k):dE (p::r) k=some p.2:=by simp[dE,List.find?_cons,e]
theorem eO {p:κ×V}{r:List (κ×V)}{k:κ}(e:¬ p.1=k):dE (p::r) k=dE r k:=by simp[dE,List.find?_cons,e]
theorem gG (k:κ):∀ kvs:List (κ×V),(kvs.any λkv=>decide (kv.1=k))=(dE kvs k).isSome
 | []=>rfl
 | p::r=>by
  rw[xEc]
  by_cases e:p.1=k
  ·simp only[eE e,decide_eq_true e,Bool.true_or,Option.isSome_some]
  ·rw[eO e,xBc e,Bool.false_or]; exact gG k r
theorem wW (k j:κ)(y:V):∀ kvs:List (κ×V),dE (kvs.map λkv=>if kv.1=k then (kv.1,y) else kv) j=(dE kvs j).map λx=>if j=k then y else x
 | []=>rfl
 | p::r=>by
  have ih:=wW k j y r;rw[xBx]
  by_cases h:p.1=k
  ·rw[xAz h]
   by_cases e:p.1=j
   ·rw[eE (p:=(p.1,y)) e,eE e,xFr,xAz (e.symm.trans h)]
   ·rw[eO (p:=(p.1,y)) e,eO e,ih]
  ·rw[xAw h]
   by_cases e:p.1=j
   ·rw[eE (p:=p) e,eE e,xFr,xAw (λz=>h (e.trans z))]
   ·rw[eO (p:=p) e,eO e,ih]
theorem tX (k j:κ)(y:V):∀ kvs:List (κ×V),dE kvs k=none->dE (kvs++[(k,y)]) j=if j=k then some y else dE kvs j
 | [],_=>by
  by_cases e:k=j
  ·rw[xAz e.symm]; exact eE (p:=(k,y)) e
  ·rw[xAw (λz=>e z.symm)]; exact eO (p:=(k,y)) e
 | p::r,hn=>by
  rw[xHa];have hk:¬ p.1=k:=λz=>by rw[eE z] at hn; cases hn
  rw[eO hk] at hn;have ih:=tX k j y r hn
  by_cases e:p.1=j
  ·rw[eE e,eE e,xAw (λz=>hk (e.trans z))]
  ·rw[eO e,eO e,ih]
theorem nG (kvs:List (κ×V))(k j:κ)(y:V):dE (eX kvs k y) j=if j=k then some y else dE kvs j:=by
 unfold eX
 by_cases a:(kvs.any λkv=>decide (kv.1=k))=true
 ·rw[xAz a,wW];rw[gG] at a
  by_cases e:j=k
  ·obtain⟨x,hx⟩:=xCr.mp a;rw[xAz e,e,hx,xFr,xAz rfl]
  ·rw[xAw e];cases dE kvs j with
   | none=>rfl
   | some x=>rw[xFr,xAw e]
 ·rw[xAw a];refine tX k j y kvs ?_;rw[gG] at a;cases q:dE kvs k with
  | none=>rfl
  | some x=>rw[q] at a; exact (a rfl).elim
theorem gE (kvs:List (κ×V))(k:κ)(v:V):(eX kvs k v).length<=kvs.length+1:=by
 unfold eX;split
 ·rw[xAa]; omega
 ·rw[xAn,xBf,xEb]; omega
theorem aIa {kvs:List (κ×V)}{k:κ}(v:V)(h:dE kvs k=none):eX kvs k v=kvs++[(k,v)]:=by
 unfold eX;rw[gG,h];exact xAw (by decide)

theorem kG.isSome_eq {o:Option V}{u:Option Value}(r:kG o u):o.isSome=u.isSome:=by
 cases o with
 | none=>cases u with
  | none=>rfl
  | some _=>exact (show False from r).elim
 | some _=>cases u with
  | none=>exact (show False from r).elim
  | some _=>rfl
theorem kG.getD {o:Option V}{u:Option Value}{d:V}{d':Value}(r:kG o u)(rd:cC d d'):cC (o.getD d) (u.getD d'):=by
 cases o with
 | none=>cases u with
  | none=>exact rd
  | some _=>exact (show False from r).elim
 | some _=>cases u with
  | none=>exact (show False from r).elim
  | some _=>exact r

theorem KV.val {kvs:List (κ×V)}{vs:List (κ×Value)}(r:KV kvs vs)(k:κ):kG (dE kvs k) (valueAt vs k):=by
 unfold KV at r
 induction r with
 | nil=>exact True.intro
 | @cons p q ps qs h t ih=>
  obtain⟨h1,h2⟩:=h
  by_cases e:p.1=k
  ·have e':q.1=k:=h1.symm.trans e;have b:valueAt (q::qs) k=some q.2:=by simp[valueAt,List.find?_cons,e']
   rw[eE e,b]; exact h2
  ·have e':¬ q.1=k:=λz=>e (h1.trans z);have b:valueAt (q::qs) k=valueAt qs k:=by simp[valueAt,List.find?_cons,e']
   rw[eO e,b]; exact ih
theorem KV.any {kvs:List (κ×V)}{vs:List (κ×Value)}(r:KV kvs vs)(k:κ):(kvs.any λkv=>decide (kv.1=k))=vs.any λkv=>decide (kv.1=k):=by
 unfold KV at r
 induction r with
 | nil=>rfl
 | cons h t ih=>rw[xEc,xEc,ih,h.1]
theorem KV.repl {kvs:List (κ×V)}{vs:List (κ×Value)}(r:KV kvs vs)(k:κ){y:V}{u:Value}(ry:cC y u) :
  KV (kvs.map λkv=>if kv.1=k then (kv.1,y) else kv) (vs.map λkv=>if kv.1=k then (kv.1,u) else kv):=by
 unfold KV at r ⊢
 induction r with
 | nil=>exact .nil
 | @cons p q ps qs h t ih=>
  rw[xBx,xBx];refine .cons ?_ ih;obtain⟨h1,h2⟩:=h
  by_cases e:p.1=k
  ·rw[xAz e,xAz (h1.symm.trans e)]; exact⟨h1,ry⟩
  ·rw[xAw e,xAw (λz=>e (h1.trans z))]; exact⟨h1,h2⟩
theorem KV.put {kvs:List (κ×V)}{vs:List (κ×Value)}(r:KV kvs vs)(k:κ){y:V}{u:Value}(ry:cC y u):KV (eX kvs k y) (stored vs k u):=by
 unfold eX stored;rw[r.any k]
 by_cases e:(vs.any λkv=>decide (kv.1=k))=true
 ·rw[xAz e,xAz e]; exact r.repl k ry
 ·rw[xAw e,xAw e]; exact Paired.snoc r ⟨rfl,ry⟩
theorem KV.length {kvs:List (κ×V)}{vs:List (κ×Value)}(r:KV kvs vs):kvs.length=vs.length:=Paired.length r
end


theorem uT {P:Program}{w:World}{k:Key}{u:Value}(r:cC (kV k) u):(dG P w).is k u=true:=by
 cases k with
 | inl i=>obtain⟨t,e⟩:=(show ∃ t,u=Value.int i t from r); subst e; exact yG P w i t
 | inr x=>obtain⟨t,e⟩:=(show ∃ t,u=Value.str x t from r); subst e; exact yF P w x t
theorem uU {P:Program}{w:World}:∀ {ks:List Key}{us:List Value},bU (ks.map kV) us->ItemsAre (dG P w) ks us
 | [],_,r=>by rw[xFu] at r; cases r; exact .nil
 | k::ks,_,r=>by
  rw[xBx] at r;cases r with
  | cons h t=>exact .cons (uT h) (uU t)

abbrev KT (H:Hp):List (List Key×V)->List (List Key×Addr×Value)->Prop:=Paired λp q=>p.1=q.1/\H q.2.1=some (.tup (p.1.map kV))/\cC p.2 q.2.2
theorem KT.val {H:Hp}{kvs:List (List Key×V)}{xs:List (List Key×Addr×Value)}(r:KT H kvs xs)(k:List Key):kG (dE kvs k) ((atKey xs k).map (·.2)):=by
 induction r with
 | nil=>exact True.intro
 | @cons p q ps qs h t ih=>
  obtain⟨h1,_,h2⟩:=h
  by_cases e:p.1=k
  ·have e':q.1=k:=h1.symm.trans e;have b:atKey (q::qs) k=some q.2:=by simp[atKey,List.find?_cons,e']
   rw[eE e,b]; exact h2
  ·have e':¬ q.1=k:=λz=>e (h1.trans z);have b:atKey (q::qs) k=atKey qs k:=by simp[atKey,List.find?_cons,e']
   rw[eO e,b]; exact ih
theorem KT.repl {H:Hp}{kvs:List (List Key×V)}{xs:List (List Key×Addr×Value)}(r:KT H kvs xs)(k:List Key){y:V}{u:Value}(ry:cC y u) :
  KT H (kvs.map λkv=>if kv.1=k then (kv.1,y) else kv) (xs.map (putAt k u)):=by
 induction r with
 | nil=>exact .nil
 | @cons p q ps qs h t ih=>
  rw[xBx,xBx];refine .cons ?_ ih;obtain⟨h1,h2,h3⟩:=h;unfold putAt
  by_cases e:p.1=k
  ·rw[xAz e,xAz (h1.symm.trans e)]; exact⟨h1,h2,ry⟩
  ·rw[xAw e,xAw (λz=>e (h1.trans z))]; exact⟨h1,h2,h3⟩
theorem KT.put {H:Hp}{kvs:List (List Key×V)}{xs:List (List Key×Addr×Value)}(r:KT H kvs xs)(k:List Key){b:Addr}{y:V}{u:Value}(hb:H b=some (.tup (k.map kV)))(ry:cC y u) :
  KT H (eX kvs k y) (storedH xs k b u):=by
 have e:(kvs.any λkv=>decide (kv.1=k))=(atKey xs k).isSome:=by
  rw[gG,(r.val k).isSome_eq,xGt]
 unfold eX storedH;rw[e]
 by_cases q:(atKey xs k).isSome=true
 ·rw[xAz q,xAz q]; exact r.repl k ry
 ·rw[xAw q,xAw q]; exact Paired.snoc r ⟨rfl,hb,ry⟩
theorem KT.keeps {H H':Hp}{kvs:List (List Key×V)}{xs:List (List Key×Addr×Value)}(r:KT H kvs xs)(ht:∀ b ys,H b=some (.tup ys)->H' b=some (.tup ys)):KT H' kvs xs:=
 Paired.mapP r λ_ _ z=>⟨z.1,ht _ _ z.2.1,z.2.2⟩

section
variable {P:Program}{w:World}{H:Hp}{h:Heap}{a:Addr}
theorem aOt {u:HO}(ok:HOk P w H h)(e:Rd H a u):dA P w H h a u:=e.ok ok
theorem qB {kvs:List (Key×V)}(ok:HOk P w H h)(e:Rd H a (.dK kvs)):kvs.length<=sizeLine/\(a==sysModules)=false/\∃ vs,KV kvs vs/\h.DictOf (dG P w) a vs:=
 show dA P w H h a (.dK kvs) from aOt ok e
theorem aPi {kvs:List (Key×V)}(ok:HOk P w H h)(e:H a=some (.dK kvs)):kvs.length<=sizeLine/\(a==sysModules)=false/\∃ vs,KV kvs vs/\h.DictOf (dG P w) a vs:=qB ok (.inl e)
theorem mX {ks:List Key}(ok:HOk P w H h)(e:H a=some (.tup (ks.map kV))):(tupleKind (dG P w)).is h ks a:=by
 obtain⟨_,its,r,o,h1,h2,n,h3⟩:=(show dA P w H h a (.tup (ks.map kV)) from ok a _ e)
 exact⟨o,its.toArray,n,h1,h2,h3,by simpa using uU r⟩
theorem sV {kvs:List (List Key×V)}(ok:HOk P w H h)(e:Rd H a (.dT kvs)):kvs.length<=sizeLine/\(a==sysModules)=false /\
  ∃ xs,KT H kvs xs/\h.DictOfH (tupleKind (dG P w)) a xs:=by
 obtain⟨z,y,xs,r,o,es,ep,h1,h2,h3,h4,h5⟩:=(show dA P w H h a (.dT kvs) from aOt ok e)
 refine⟨z,y,xs,r,o,es,ep,h1,h2,h3,h4,λx hx=>?_,h5⟩
 have all:∀ {l:List (List Key×V)}{m:List (List Key×Addr×Value)},KT H l m->∀ x∈m,(tupleKind (dG P w)).is h x.1 x.2.1:=by
  intro l m q
  induction q with
  | nil=>intro x hx; exact nomatch hx
  | @cons p q ps qs hq t ih=>
   intro x hx;rcases xAk.mp hx with e | hx
   ·subst e;exact mX ok (by rw[<- hq.1]; exact hq.2.1)
   ·exact ih x hx
 exact all r x hx
theorem aPh {kvs:List (List Key×V)}(ok:HOk P w H h)(e:H a=some (.dT kvs)):kvs.length<=sizeLine/\(a==sysModules)=false /\
  ∃ xs,KT H kvs xs/\h.DictOfH (tupleKind (dG P w)) a xs:=sV ok (.inl e)
end

def fP (H:Hp)(a:Addr)(y:V)(r:Option V):Prop:=
 (∃ kvs k,Rd H a (.dK kvs)/\y=kV k/\r=dE kvs k)\/∃ kvs k b,Rd H a (.dT kvs)/\y=.ref b/\H b=some (.tup (k.map kV))/\r=dE kvs k
def pS (H:Hp)(a:Addr)(y v:V)(H':Hp):Prop:=
 (∃ kvs k,H a=some (.dK kvs)/\y=kV k/\kvs.length<sizeLine/\H'=upd H a (.dK (eX kvs k v))) \/
 ∃ kvs k b,H a=some (.dT kvs)/\y=.ref b/\H b=some (.tup (k.map kV))/\kvs.length<sizeLine/\H'=upd H a (.dT (eX kvs k v))
theorem fP.k {H:Hp}{a:Addr}{kvs:List (Key×V)}{k:Key}(e:H a=some (.dK kvs)):fP H a (kV k) (dE kvs k):=.inl ⟨kvs,k,.inl e,rfl,rfl⟩
theorem fP.t {H:Hp}{a b:Addr}{kvs:List (List Key×V)}{k:List Key}(e:H a=some (.dT kvs))(eb:H b=some (.tup (k.map kV))):fP H a (.ref b) (dE kvs k):=.inr ⟨kvs,k,b,.inl e,rfl,eb,rfl⟩
theorem pS.k {H:Hp}{a:Addr}{kvs:List (Key×V)}{k:Key}{v:V}(e:H a=some (.dK kvs))(hl:kvs.length<sizeLine):pS H a (kV k) v (upd H a (.dK (eX kvs k v))):=.inl ⟨kvs,k,e,rfl,hl,rfl⟩
theorem pS.t {H:Hp}{a b:Addr}{kvs:List (List Key×V)}{k:List Key}{v:V}(e:H a=some (.dT kvs))(eb:H b=some (.tup (k.map kV)))(hl:kvs.length<sizeLine) :
  pS H a (.ref b) v (upd H a (.dT (eX kvs k v))):=.inr ⟨kvs,k,b,e,rfl,eb,hl,rfl⟩


section
variable {X:Cx}{pins:xPn}{σ:St}{H:Hp}{s:Shared}{a:Addr}{y v:V}{u r:Value}{o:Option V}{A:Around}{E:xVP}

theorem Inv.big (I:Inv X pins σ H s):sysModules<s.heap.objs.size:=by
 have h:mainGlobals<s.heap.objs.size:=(I.mod.glob.keeps I.bk).lt;exact Nat.lt_trans (by decide) h

theorem aGc {Q:xVP}(hu:A.units+1<cLine)(I:Inv X pins σ H s)(g:fP H a y (some v))(ry:cC y u)(h:∀ w' s',Inv X pins σ H s'->cC v w'->Q w' s') :
  wpAny (model X.prog X.w) A (getItem (.ref a) u) Q E s:=by
 rcases g with⟨kvs,k,e,ey,l⟩ | ⟨kvs,k,b,e,ey,eb,l⟩
 ·subst ey;obtain⟨z,hd,vs,rel,dd⟩:=qB I.hok e;obtain⟨w',hw,rw'⟩:=kG.some_of (v:=v) (o:=valueAt vs k) (by rw[l]; exact rel.val k);exact wpAny_getItem_of (uT ry) dd.mapOf hw (h w' _ (I.tok _) rw')
 ·subst ey;cases (show u=Value.ref b from ry)
  obtain⟨z,hd,xs,rel,dd⟩:=sV I.hok e;obtain⟨w',hw,rw'⟩:=kG.some_of (v:=v) (o:=(atKey xs k).map (·.2)) (by rw[l]; exact rel.val k);obtain⟨p,hp,hp2⟩:=xFn.mp hw;refine wpAny_getItem_heap (tupleKind_room_in1 hu) (mX I.hok eb) dd hp ?_;rw[hp2];exact h w' _ (I.tok _) rw'
theorem aWv {Q:xVP}(hu:A.units+1<cLine)(I:Inv X pins σ H s)(g:fP H a y o)(ry:cC y u)(h:∀ s',Inv X pins σ H s'->Q (.bool o.isSome) s') :
  wpAny (model X.prog X.w) A (compareOp .In u (.ref a)) Q E s:=by
 rcases g with⟨kvs,k,e,ey,l⟩ | ⟨kvs,k,b,e,ey,eb,l⟩
 ·subst ey;obtain⟨z,hd,vs,rel,dd⟩:=qB I.hok e;refine wpAny_in_of (uT ry) hd dd.mapOf ?_;rw[<- (rel.val k).isSome_eq,<- l];exact h _ (I.tok _)
 ·subst ey;cases (show u=Value.ref b from ry)
  obtain⟨z,hd,xs,rel,dd⟩:=sV I.hok e;refine wpAny_in_heap (tupleKind_room_in1 hu) (mX I.hok eb) hd dd ?_;have q:=(rel.val k).isSome_eq;rw[xGt] at q;rw[<- q,<- l];exact h _ (I.tok _)
theorem aNt {Q:xVP}(hu:A.units+1<cLine)(I:Inv X pins σ H s)(g:fP H a y o)(ry:cC y u)(h:∀ s',Inv X pins σ H s'->Q (.bool (!o.isSome)) s') :
  wpAny (model X.prog X.w) A (compareOp .NotIn u (.ref a)) Q E s:=by
 rcases g with⟨kvs,k,e,ey,l⟩ | ⟨kvs,k,b,e,ey,eb,l⟩
 ·subst ey;obtain⟨z,hd,vs,rel,dd⟩:=qB I.hok e;refine wpAny_notIn_of (uT ry) hd dd.mapOf ?_;rw[<- (rel.val k).isSome_eq,<- l];exact h _ (I.tok _)
 ·subst ey;cases (show u=Value.ref b from ry)
  obtain⟨z,hd,xs,rel,dd⟩:=sV I.hok e;refine wpAny_notIn_heap (tupleKind_room_in1 hu) (mX I.hok eb) hd dd ?_;have q:=(rel.val k).isSome_eq;rw[xGt] at q;rw[<- q,<- l];exact h _ (I.tok _)
theorem wO {h':Heap}{t':Nat}{ob:HO}(I:Inv X pins σ H s)(mu:Mut (H a))(hs:Heap.SameBut a s.heap h')(he:∃ q,h'.get? a=some q)(new:dA X.prog X.w (upd H a ob) h' a ob) :
  Inv X pins σ (upd H a ob) { s with heap:=h',toks:=t' }:=
 I.write (x:=a) (e:=a) mu (.inl rfl) (λb q hb z=>(hs.2 b hb).trans z) he new
theorem aRm {P:Program}{w:World}{H':Hp}{h':Heap}{kvs:List (Key×V)}{vs:List (Key×Value)}(z:kvs.length<=sizeLine)(hd:(a==sysModules)=false)(rel:KV kvs vs)(dd:h'.DictOf (dG P w) a vs) :
  dA P w H' h' a (.dK kvs):=⟨z,hd,vs,rel,dd⟩
theorem aGb {H':Hp}{Q:Unit->Shared->Prop}(hu:A.units+1<cLine)(I:Inv X pins σ H s)(g:pS H a y v H')(ry:cC y u)(rv:cC v r)(h:∀ s',Inv X pins σ H' s'->Q () s') :
  wpAny (model X.prog X.w) A (setItem (.ref a) u r) Q E s:=by
 rcases g with⟨kvs,k,e,ey,l,eH⟩ | ⟨kvs,k,b,e,ey,eb,l,eH⟩
 ·subst ey eH;obtain⟨z,hd,vs,rel,dd⟩:=aPi I.hok e;have hz:vs.length<=sizeLine:=by rw[<- rel.length]; exact z
  have hl:(eX kvs k v).length<=sizeLine:=by have:=gE kvs k v; omega
  refine wpAny_setItem_pairs (hsz:=hz) (uT ry) dd λh' dd' hs=>h _ ?_;have he:∃ q,h'.get? a=some q:=let ⟨q,_,_,hq,_⟩:=dd'; ⟨q,hq⟩;exact wO I (by rw[e]; exact True.intro) hs he (aRm hl hd (rel.put k rv) dd')
 ·subst ey eH;cases (show u=Value.ref b from ry)
  obtain⟨z,hd,xs,rel,dd⟩:=aPh I.hok e;have hz:xs.length<=sizeLine:=by rw[<- Paired.length rel]; exact z
  have hl:(eX kvs k v).length<=sizeLine:=by have:=gE kvs k v; omega
  refine wpAny_setItem_heap (hsz:=hz) (tupleKind_room_in1 hu) (mX I.hok eb) dd λh' dd' hs=>h _ ?_;obtain⟨q,es,ep,hq,h2,h3,h4,_,h5⟩:=dd';refine wO I (by rw[e]; exact True.intro) hs ⟨q,hq⟩ ⟨hl,hd,_,(rel.put k eb rv).keeps λc ys ec=>?_,q,es,ep,hq,h2,h3,h4,h5⟩;rw[aH (eZ ec e (λz=>nomatch z))];exact ec
end

section
variable {X:Cx}{pins:xPn}{σ:St}{H:Hp}{s:Shared}{a:Addr}{kvs:List (Key×V)}{k:Key}{u:Value}{A:Around}{E:xVP}
theorem aTn {Q:xVP}(I:Inv X pins σ H s)(e:Rd H a (.dK kvs))(h:∀ t s',Inv X pins σ H s'->Q (.int kvs.length t) s'):wpAny (model X.prog X.w) A (call (.builtin "len") [.ref a]) Q E s:=by
 obtain⟨z,hd,vs,rel,dd⟩:=qB I.hok e;refine call_len_dict hd dd (by rw[<- rel.length]; rw[sizeLine_eq] at z; omega) ?_;rw[<- rel.length];exact h _ _ (I.tok _)
end


def aTv (i:Expr):Prop:=∀ ov iv,subscripted i false ov iv=operate [ov,iv] (getItem ov iv)
theorem aMa {prog:Program}{w:World}{A:Around}{E:xVP}{s:Shared}{env:Env}{value slice:Expr}{pos:Pos}{T id:String}{Q:xVP}
  (hl:typeLookup (.type T) "__getitem__"=pure (some (.builtin id)))(hs:aTv slice)
  (h:wpAny (model prog w) A (eval value env) (λo s₁=>wpAny (model prog w) A (eval slice env) (λi s₂=>s₂.TypeIs o T/\wpAny (model prog w) A (getItem o i) Q E s₂) E s₁) E s) :
  wpAny (model prog w) A (eval (.Subscript value slice pos) env) Q E s:=by
 refine Subscript_ (xCj h (λo s₁ h₁=>xCj h₁ (λi s₂ h₂=>?_) λ_ _ x=>x) λ_ _ x=>x);obtain⟨hT,h₂⟩:=h₂;unfold subscriptTail;refine xAc ?_;rw[getitemInPython_of_ne hT.not_modules];refine xAc (wpAny_specialOf hT hl ?_)
 have fin:wpAny (model prog w) A (subscripted slice false o i) (λr s₃=>wpAny (model prog w) A (letTemporaryGo value o r>>=λ_=>pure r) Q E s₃) E s₂:=by
  rw[hs o i];exact wpAny_operating (xCj h₂ (λr s₃ h₃=>xAc (wpAny_letTemporaryGo (xAl h₃))) λ_ _ x=>x)
 first
  | exact xAl (xAc fin)
  | exact xAc (xAl (xAc fin))
  | exact xAc fin

theorem yU {X:Cx}{pins:xPn}{σ:St}{H:Hp}{s:Shared}{a:Addr}{y:V}{o:Option V}(I:Inv X pins σ H s)(g:fP H a y o):s.TypeIs (.ref a) "dict":=by
 rcases g with⟨kvs,k,e,_,_⟩ | ⟨kvs,k,b,e,_,_,_⟩
 ·obtain⟨_,_,vs,_,dd⟩:=qB I.hok e;exact dd.typeIs
 ·obtain⟨_,_,xs,_,dd⟩:=sV I.hok e;exact dd.typeIs

inductive aUd (x y:V)(H:Hp)(Q:VK):Prop
 | mk (a:Addr)(v:V)(h1:x=.ref a)(h2:fP H a y (some v))(q:Q v H)
inductive aUc (x y:V)(H:Hp)(Q:Option V->Hp->Prop):Prop
 | mk (a:Addr)(o:Option V)(h1:x=.ref a)(h2:fP H a y o)(q:Q o H)
def aSb (td ty:TE):TE:=λσ H Q=>td σ H λx H1=>ty σ H1 λy H2=>aUd x y H2 Q
def aUp (ty td:TE):TE:=λσ H Q=>ty σ H λy H1=>td σ H1 λx H2=>aUc x y H2 λo H2=>Q (.bl o.isSome) H2
def aLy (ty td:TE):TE:=λσ H Q=>ty σ H λy H1=>td σ H1 λx H2=>∃ a o,x=.ref a/\fP H2 a y o/\Q (.bl (!o.isSome)) H2
inductive aRt (x y v:V)(H3:Hp)(R:Hp->Prop):Prop
 | mk (a:Addr)(H4:Hp)(h1:x=.ref a)(h2:pS H3 a y v H4)(q:R H4)
def aSq (td ty tv:TE):TS:=λD σ H=>tv σ H λv H1=>td σ H1 λx H2=>ty σ H2 λy H3=>aRt x y v H3 (D.nx σ)

section
variable {X:Cx}{o i e value:Expr}{pos pos' tpos:Pos}{td ty tv:TE}
theorem iW (hu:X.A.units+1<cLine)(ho:PE X o td)(hi:PE X i ty)(hs:aTv i):PE X (.Subscript o i pos) (aSb td ty):=by
 intro pins s σ H Q I h;refine aMa PySem.F.slot_dict_getitem.lookup hs (thn (ho pins s σ H _ I h) λu s1 ⟨x,H1,I1,rx,q1⟩=>thn (hi pins s1 σ H1 _ I1 q1) λiv s2 ⟨y,H2,I2,ry,a,v,ex,g,q2⟩=>?_);subst ex;obtain rfl:u=Value.ref a:=rx;exact⟨yU I2 g,aGc hu I2 g ry λw' s3 I3 rw'=>⟨v,H2,I3,rw',q2⟩⟩
theorem sH (hu:X.A.units+1<cLine)(hi:PE X i ty)(ho:PE X o td):PC X .In i o (aUp ty td):=by
 intro pins s σ H Q I h;refine thn (hi pins s σ H _ I h) λiv s1 ⟨y,H1,I1,ry,q1⟩=>thn (ho pins s1 σ H1 _ I1 q1) λu s2 ⟨x,H2,I2,rx,a,ov,ex,g,q2⟩=>?_;subst ex;obtain rfl:u=Value.ref a:=rx;exact aWv hu I2 g ry λs3 I3=>⟨.bl ov.isSome,H2,I3,rfl,q2⟩
theorem oZ (hu:X.A.units+1<cLine)(hi:PE X i ty)(ho:PE X o td):PC X .NotIn i o (aLy ty td):=by
 intro pins s σ H Q I h;refine thn (hi pins s σ H _ I h) λiv s1 ⟨y,H1,I1,ry,q1⟩=>thn (ho pins s1 σ H1 _ I1 q1) λu s2 ⟨x,H2,I2,rx,a,ov,ex,g,q2⟩=>?_;subst ex;obtain rfl:u=Value.ref a:=rx;exact aNt hu I2 g ry λs3 I3=>⟨.bl (!ov.isSome),H2,I3,rfl,q2⟩
theorem jS (hu:X.A.units+1<cLine)(ho:PE X o td)(hi:PE X i ty)(hv:PE X value tv)(hs:swapsWith value (some (.Subscript o i pos')) pos.line X.env=pure false) :
  PS X (.Assign [.Subscript o i pos'] value pos) (aSq td ty tv):=by
 intro pins s σ H D I h;refine wpAny_Assign_Subscript (thn (hv pins s σ H _ I h) λr s1 ⟨v,H1,I1,rv,q1⟩=>thn (ho pins s1 σ H1 _ I1 q1) λu s2 ⟨x,H2,I2,rx,q2⟩=>thn (hi pins s2 σ H2 _ I2 q2) λiv s3 ⟨y,H3,I3,ry,a,H4,ex,g,q3⟩=>?_) hs;subst ex;obtain rfl:u=Value.ref a:=rx;exact aGb hu I3 g ry rv λs4 I4=>⟨σ,H4,I4,q3⟩
end


theorem aLa {P:Program}{w:World}{H:Hp}(h:Heap)(hb:sysModules<h.objs.size):dA P w H (h.push { cls:=.type "dict",data:=.dict #[] }) h.objs.size (.dK []):=
 ⟨xBu _,xCn.mpr (Ne.symm (xBd hb)),[],.nil,Heap.DictOf.new h⟩
theorem yT {P:Program}{w:World}{H:Hp}(h:Heap)(hb:sysModules<h.objs.size):dA P w H (h.push { cls:=.type "dict",data:=.dict #[] }) h.objs.size (.dT []):=
 ⟨xBu _,xCn.mpr (Ne.symm (xBd hb)),[],.nil,_,#[],0,xAq _ rfl,⟨rfl,rfl,rfl⟩,rfl,rfl,List.nodup_nil⟩
def aPv:TE:=λ_ H Q=>∀ p,H p=none->Q (.ref p) (upd H p (.dK []))
def aPu:TE:=λ_ H Q=>∀ p,H p=none->Q (.ref p) (upd H p (.dT []))
section
variable {X:Cx}{pos:Pos}
theorem kS:PE X (.Dict [] [] pos) aPv:=λpins s σ H Q I h=>
 wpAny_Dict_empty ⟨.ref s.heap.objs.size,_,I.laid (a:=s.heap.objs.size) (o:=.dK []) (t':=s.toks) (λ_ _ q=>xAf _ q) (xAh _) (aLa s.heap I.big),rfl,h _ (I.hok.fresh (xAh _))⟩
theorem aIf:PE X (.Dict [] [] pos) aPu:=λpins s σ H Q I h=>
 wpAny_Dict_empty ⟨.ref s.heap.objs.size,_,I.laid (a:=s.heap.objs.size) (o:=.dT []) (t':=s.toks) (λ_ _ q=>xAf _ q) (xAh _) (yT s.heap I.big),rfl,h _ (I.hok.fresh (xAh _))⟩
end




structure M1 (X:Cx)(o:Expr)(m:Str)(apos:Pos)(e:Expr)(cpos:Pos):Prop where
 base:attributeBase o m X.env (eval o X.env)=eval o X.env
 few:((backTo cpos (starEach [e] X.env)).all (λx=>!x.1)&&(backToKw cpos (keywordEach [] X.env)).all (λx=>x.1.isSome)
  && decide (([e]:List Expr).length+([]:List Keyword).length+(if ([]:List Keyword).isEmpty then 0 else 1)<30))=true
 line:(apos.endLine==cpos.line)=true
 trees:backTo cpos (starEach [e] X.env)=[(false,eval e X.env)]

def IsD (H:Hp)(a:Addr):Prop:=(∃ kvs,Rd H a (.dK kvs))\/∃ kvs,Rd H a (.dT kvs)
theorem aRg {X:Cx}{pins:xPn}{σ:St}{H:Hp}{s:Shared}{a:Addr}(I:Inv X pins σ H s)(d:IsD H a) :
  s.TypeIs (.ref a) "dict" /\ (∀ b,Value.ref a=.ref b->∃ ob,s.heap.get? b=some ob/\ob.dict=none)/\(a==sysModules)=false:=by
 rcases d with⟨kvs,e⟩ | ⟨kvs,e⟩
 ·obtain⟨_,hd,vs,_,dd⟩:=qB I.hok e;refine⟨dd.typeIs,λb q=>?_,hd⟩;cases q;obtain⟨ob,_,_,h1,h2,_⟩:=dd;exact⟨ob,h1,h2.2.1⟩
 ·obtain⟨_,hd,xs,_,dd⟩:=sV I.hok e;refine⟨dd.typeIs,λb q=>?_,hd⟩;cases q;obtain⟨ob,_,_,h1,h2,_⟩:=dd;exact⟨ob,h1,h2.2.1⟩

section
variable {X:Cx}{pins:xPn}{σ:St}{H:Hp}{s:Shared}{a:Addr}{y d:V}{u r:Value}{o:Option V}{A:Around}{E:xVP}
theorem aRn {Q:xVP}(hu:A.units+1<cLine)(I:Inv X pins σ H s)(g:fP H a y o)(ry:cC y u)(h:∀ w' s',Inv X pins σ H s'->cC (o.getD .non) w'->Q w' s') :
  wpAny (model X.prog X.w) A (call (.builtin "dict.get") [.ref a,u]) Q E s:=by
 rcases g with⟨kvs,k,e,ey,l⟩ | ⟨kvs,k,b,e,ey,eb,l⟩
 ·subst ey;obtain⟨z,hd,vs,rel,dd⟩:=qB I.hok e;refine call_meetsIn xFq dd.typeIs xIe (xHv _ _) (meets_dict_get (dG X.prog X.w) a (uT ry) hd) ⟨_,dd.mapOf,h _ _ (I.tok _) ?_⟩;rw[l];exact (rel.val k).getD rfl
 ·subst ey;cases (show u=Value.ref b from ry)
  obtain⟨z,hd,xs,rel,dd⟩:=sV I.hok e;refine call_meetsIn xFq dd.typeIs xIe (xHv _ _) (meetsH_dict_get (tupleKind (dG X.prog X.w)) a b hd) ⟨tupleKind_room_in1 hu,k,xs,mX I.hok eb,dd,h _ _ (I.tok _) ?_⟩;rw[l];exact (rel.val k).getD rfl
end

def aPw (td ty:TE):TE:=λσ H Q=>td σ H λx H1=>∃ a,x=.ref a/\IsD H1 a/\ty σ H1 λy H2=>∃ o,fP H2 a y o/\Q (o.getD .non) H2
section
variable {X:Cx}{o e f:Expr}{apos cpos:Pos}{td ty tx:TE}
theorem aIh (hu:X.A.units+1<cLine)(ho:PE X o td)(he:PE X e ty)(m:M1 X o "get" apos e cpos):PE X (.Call (.Attribute o "get" apos) [e] [] cpos) (aPw td ty):=by
 intro pins s σ H Q I h;refine wpAny_Call_method m.base m.few m.line PySem.F.plainAttrs_dict xFq PySem.F.type_dict_get (thn (ho pins s σ H _ I h) λu s1 ⟨x,H1,I1,rx,a,ex,d,q1⟩=>?_);subst ex;obtain rfl:u=Value.ref a:=rx;obtain⟨t1,t2,_⟩:=aRg I1 d;refine⟨t1,t2,?_⟩;rw[m.trees];refine xIg rfl (xGf (xDm (thn (he pins s1 σ H1 _ I1 q1) λiv s2 ⟨y,H2,I2,ry,ov,g,q2⟩=>xGx ?_)));exact aRn hu I2 g ry λw' s3 I3 rw'=>⟨_,H2,I3,rw',q2⟩
end

section
variable {X:Cx}{pins:xPn}{σ:St}{H:Hp}{s:Shared}{a:Addr}{kvs:List (Key×V)}{A:Around}{E:xVP}
end


section
variable {X:Cx}{pins:xPn}{σ:St}{H:Hp}{s:Shared}{a:Addr}{y:V}{u:Value}{A:Around}{E:xVP}
end
end L2
namespace Att
open PySem PySem.W PySem.Calls PyProof.Rows

theorem qG {P:Params}{h:Heap}:∀ (ns:List Int) (vs:List Value),WellAll P h vs (ns.map WData.int)->IntsAre vs ns:=by
 intro ns
 induction ns with
 | nil=>
  intro vs w;rw[List.map_nil] at w;cases w;exact .nil
 | cons n ns ih=>
  intro vs w;rw[List.map_cons] at w;cases w with
  | cons a b=>
   cases a;exact .cons _ _ (ih _ b)

theorem aEh {l:OpenLaw}{n:Nat}(hn:l.most=some n){P:Params}{h:Heap}{args:List WData}{vals:List Value}
  (hpre:l.row.toRowW.claim.pre args=true)(hwl:WellAll P h vals args) :
  ∃ a vs ns,vals=[Value.ref a]/\args=[WData.list (ns.map WData.int)]/\h.get? a=some { cls:=.type "list",data:=.seq vs.toArray }/\IntsAre vs ns/\ns.length<=n:=by
 have hsh:WShape.hasAll [] args [.list .int]=true:=(pre_splitW hpre).1;have hc:l.pre.holds [] { args:=args }=true:=(pre_splitW hpre).2;obtain⟨d,r,rfl,h1,h2⟩:=hasAllW_cons hsh;obtain rfl:=hasAllW_nil h2;obtain⟨xs,rfl,h3⟩:=hasW_list h1;obtain⟨ns,rfl⟩:=items_int h3
 have hlen:ns.length<=n:=by
  unfold OpenLaw.pre at hc
  have h4:(WTm.not (.lt (.lit (.int (n:Int))) (.len (.arg 0)))).holds [] { args:=[.list (ns.map .int)] }=true:=by
   have h4:=(holds_andW hc).1;rw[hn] at h4;exact h4
  have h5:=condW_of h4 (w_not (w_lt w_lit (w_len_list (w_arg rfl))));rw[List.length_map] at h5;refine Nat.le_of_not_lt λq=>?_;have q':(n:Int)<((ns.length:Nat):Int):=by omega
  first
   | (rw[decide_eq_true q'] at h5; exact absurd h5 (by decide))
   | (simp at h5; omega)
 cases hwl with
 | cons w1 w2=>
  cases w2;cases w1 with
  | list ho hall=>exact⟨_,_,ns,rfl,rfl,ho,qG ns _ hall,hlen⟩

theorem aEk (l:OpenLaw)(args:List WData):l.row.toRowW.claim.post args (.bool true) args=true:=
 postW_of (r:=l.row.toRowW) (X:=(true==true))
  (show WShape.has [] (.bool true) .bool=true by first | rfl | decide | simp[WShape.has,WShape.arms,WShape.armsAll])
  (show (WTm.eq .res (.lit (.bool true))).value [] { args:=args,res:=some (.bool true),after:=args }=some (.bool (true==true)) from w_eq_bool (w_res rfl) w_lit) rfl


theorem attach_call {l:OpenLaw}{n:Nat}{q:Program}{loose:List Str}{XP:(Str->Option Value)->Heap->Prop}{YP:World->Heap->Prop}{d:DefRec}
  (hn:l.most=some n)(hdf:d.params.defaults=[])
  (call:∀ (w:World) (s₀ s₁:Shared) (mg mb:Str->Option Value) (fa:Addr) (o:Obj) (pm cd doc:Value) (a:Addr) (vs:List Value) (ns:List Int),
   Ground q loose [] XP w s₀ mg mb s₁.heap->YP w s₁.heap ->
   s₁.heap.get? fa=some o->o.data=.func (docDef d.name d.params d.body d.scope pm cd doc)->s₁.heap.CodeRec cd d.name->mg d.name=some (.ref fa) ->
   s₁.heap.get? a=some { cls:=.type "list",data:=.seq vs.toArray }->IntsAre vs ns->ns.length<=n->s₁.gens=#[] ->
   codeAny (model l.prog w) callerA (.call (.ref fa) ⟨[.ref a],[]⟩) (λr s'=>r=.ok (.ret (.bool true))/\OldK s₁.heap s'.heap/\s'.os=s₁.os/\AllBare s'.gens) s₁) :
  WalkO q loose XP YP l.row.toRowW d [] (λf vs=>PySem.call f vs):=by
 intro w s₀ s₁ mg mb G Y fa o pm cd doc dV kV ho hd hcd hD hmg hg args vals as hpre hlay hrd hwl hlo;obtain rfl:dV=.none:=Dflts.none hD hdf;obtain rfl:kV=.none:=Dflts.noKw hD;obtain⟨a,vs,ns,rfl,rfl,hobj,hints,hlen⟩:=aEh hn hpre hwl;refine enter_call (codeAny_mono (call w s₀ s₁ mg mb fa o pm cd doc a vs ns G Y ho (fd_plain hd) hcd hmg hobj hints hlen hg) λr s' hq=>?_);obtain⟨rfl,h2,h3,h4⟩:=hq;exact⟨.inl ⟨.bool true,.bool true,[],rfl,λ_=>rfl,.bool true,aEk l _,λ_=>⟨List.Pairwise.nil,λ_ hm=>(nomatch hm)⟩⟩,h2,h3,h4⟩


section
variable {prog:Program}{w:World}{A:Around}{E:xVP}{s:Shared}{K:Frag}






end
end Att
namespace L2
open PySem PySem.Spec PyProof.Rows PySem.W

theorem tW:∀ {vs:List Value}{ns:List Int},IntsAre vs ns->bU (ns.map V.int) vs
 | _,_,.nil=>.nil
 | _,_,.cons n t h=>.cons ⟨t,rfl⟩ (tW h)





def aB (s:Stmt)(j:Nat):Stmt:=match s with
 | .ClassDef _ _ _ body _ _ _ _ _ _ _=>body.getD j (.Pass ⟨0,0,0,0⟩)
 | _=>.Pass ⟨0,0,0,0⟩
def aG (s:Stmt):Arguments:=match s with
 | .FunctionDef _ a _ _ _ _ _ _ _ _=>a
 | _=>{ posonlyargs:=[],args:=[],vararg:=none,kwonlyargs:=[],kw_defaults:=[],kwarg:=none,defaults:=[] }
def aF (s:Stmt):List Stmt:=match s with
 | .FunctionDef _ _ b _ _ _ _ _ _ _=>b
 | _=>[]
def aA (s:Stmt):Scope:=match s with
 | .FunctionDef _ _ _ _ _ _ sc _ _ _=>sc
 | _=>{ kind:=.function,names:=[],isGenerator:=false,isCoroutine:=false }

abbrev CX0:CXT:=λ_ _ _ _ _ _=>False
abbrev E0:XK:=λ_ _ _=>False
theorem aY {X:Cx}:eN CX0 X E0:=λ_ _ _ _ _ _ _ h=>h.elim

structure Fun (K:xAb)(x qual:Str)(st:Stmt)(f:Addr)(fd:FuncData):Prop where
 ex:∃ (oc:Value) (od:Option Addr) (kV doc pm:Value) (an:Option Addr) (cdv ct:Value) (osl:xAO),
  fd=fnOf x qual (aG st) (aF st) (aA st) .none kV doc pm an cdv ct/\K.lookup f=some ⟨oc,od,.func fd,osl⟩/\codeIn K cdv qual=true
 kp:keepIn K (.ref f)=true
section
variable {P:Program}{w:World}{K:xAb}{mg:xSO}{base:Heap}
theorem Fun.ok {x qual:Str}{st:Stmt}{f:Addr}{fd:FuncData}{N ps:List Str}{k:Nat}{sp:Sp}(F:Fun K x qual st f fd)(S:aO N ps (aA st))(len:∀ vs H Q E,sp vs H Q E->vs.length=ps.length)
  (hbody:∀ (cdv:Value) (A:Around) (outer:List Env) (s:Shared) (H:Hp) (vs:List V) (Q:VK) (E:XK),bY k (A.deeper (envOfC qual (aA st) s.heap.objs.size f cdv))->sp vs H Q E ->
   ∃ t,PSs (jJ CX0 P w K mg base N qual (aA st) f cdv A outer s H E).nox (aF st) t/\t { nx:=λ_ H'=>Q .non H',rt:=Q } (gM N vs) H):aP P w K mg base CX0 (k+1) f fd ps sp:=by
 obtain⟨oc,od,kV,doc,pm,an,cdv,ct,osl,rfl,lk,hcd⟩:=F.ex;refine aDn lk hcd S len λA outer s H vs Q E hr hsp=>?_;obtain⟨t,h,q⟩:=hbody cdv A outer s H vs Q E hr hsp;exact⟨t,h.nox,q⟩
theorem Fun.binds {x qual:Str}{st:Stmt}{f:Addr}{fd:FuncData}{ps:List Str}(F:Fun K x qual st f fd)
  (h:∀ (kV doc pm:Value) (an:Option Addr) (cdv ct:Value) (us:List Value),us.length=ps.length->bindArgs (fnOf x qual (aG st) (aF st) (aA st) .none kV doc pm an cdv ct) ⟨us,[]⟩=pure (ps.zip us)):aS K fd ps []:=by
 obtain⟨oc,od,kV,doc,pm,an,cdv,ct,osl,rfl,lk,hcd⟩:=F.ex;exact .all (h kV doc pm an cdv ct)
theorem fun_mk {x qual:Str}{st:Stmt}{f:Addr}{oc:Value}{od an:Option Addr}{osl:xAO}{kV doc pm cdv ct:Value}(l:K.lookup f=some ⟨oc,od,.func (fnOf x qual (aG st) (aF st) (aA st) .none kV doc pm an cdv ct),osl⟩)
  (c:codeIn K cdv qual=true)(k:keepIn K (.ref f)=true):Fun K x qual st f (fnOf x qual (aG st) (aF st) (aA st) .none kV doc pm an cdv ct):=⟨⟨oc,od,kV,doc,pm,an,cdv,ct,osl,rfl,l,c⟩,k⟩
end
theorem jG {A:Around}{k:Nat}(hr:bY k A):A.units+1<cLine:=xCs (Nat.add_le_add_left (by decide:1<=64) _) hr.units
theorem bS {n:Nat}(h:n<=1000):n<sizeLine:=xCs h (by decide)

section
variable {X:Cx}
theorem pv (i:Nat){x:Str}{pos:Pos}(hN:X.N[i]?=some x:=by rfl)(hv:Vis X.env.scope x:=by first | exact xBg rfl | exact xHo (xBg rfl) | exact xHo (xHo rfl))(hd:(x==("__debug__" : Str))=false:=by decide)
  (hcd:(x==("__classdict__" : Str))=false:=by decide):PE X (.Name x pos) (qE i):=vW hN hv hd hcd
end

theorem gF {A B:Prop}(h:B):if false=true then A else B:=by
 rw[xAw xAr];exact h
theorem iD {A B:Prop}(h:A):if true=true then A else B:=by
 rw[xAz rfl];exact h
theorem gK {c A B:Prop} [Decidable c] (h1:c->A)(h2:¬ c->B):if c then A else B:=by
 by_cases h:c
 ·rw[xAz h];exact h1 h
 ·rw[xAw h];exact h2 h

def aM (H H':Hp):Prop:=∀ b o,H b=some o->H' b=some o
theorem aM.refl (H:Hp):aM H H:=λ_ _ h=>h
theorem aM.trans {H H1 H2:Hp}(a:aM H H1)(b:aM H1 H2):aM H H2:=λc o h=>b c o (a c o h)
theorem aM.free {H H':Hp}(e:aM H H'){l:Addr}(h:H' l=Option.none):H l=Option.none:=by
 cases q:H l with
 | none=>rfl
 | some o=>
  rw[e l o q] at h;cases h
theorem aM.seq {K:xAb}{H H':Hp}{a:Addr}{xs:List V}(e:aM H H')(h:SqL K H a xs):SqL K H' a xs:=by
 rcases h with (h | ⟨o,h⟩) | h
 ·exact .inl (.inl (e _ _ h))
 ·exact .inl (.inr ⟨o,e _ _ h⟩)
 ·exact .inr h

section
variable {X:Cx}
inductive aXa (xs:List V)(H:Hp)(Q:VK):Prop
 | mk (a:_)(kvs:_)(h0_:xs=[V.ref a])(h1_:H a=some (.dK kvs))(h2_:Q (.int kvs.length) H)
theorem aGe:CallR X (.builtin "len") aXa:=by
 intro pins s σ H xs us Q I r h;obtain⟨a,kvs,rfl,ha,q⟩:=h;obtain⟨u,rfl,ru⟩:=kH r;cases ru;exact aTn I (.inl ha) λt s' I'=>⟨.int kvs.length,H,I',⟨t,rfl⟩,q⟩
end
section
variable {κ:Type} [DecidableEq κ]
end

def aCu (c:Nat):V:=.str ⟨#[c]⟩
def Its (x:Str):It:=⟨λi _=>i<x.cps.size,λi H v H'=>H'=H/\∃ c,x.cps[i]?=some c/\v=aCu c,λi _=>x.cps.size<=i⟩
theorem wX {P:Program}{w:World}{K:xAb}{tg:Expr}(n:String)(it:Addr)(x:Str)(t:Tok)
  (hn:n="str_ascii_iterator" \/ n="str_iterator"):zC P w K tg (Its x) [it] it (λi h=>h.IsStrIter it n x t i) where
 mem:=by simp
 obj:=λi h st b hb=>by
  have e:b=it:=by simpa using hb
  subst e;obtain⟨o,e,c,d⟩:=st;exact⟨o,e,λv z=>by rw[d] at z; cases z⟩
 keep:=λi h h' st k=>by
  obtain⟨o,e,c,d⟩:=st;exact⟨o,k it (by simp) o e,c,d⟩
 item:=by
  intro X hP hw hK hc i pins s σ H E I hf st hg;subst hP hw hK;obtain⟨f0,f1,f2,f3,f4,f5⟩:=hf it (by simp);have hg':i<x.cps.size:=hg;have hx:x.cps[i]?=some x.cps[i]:=by simp[hg']
  have fin:∀ h',h'.IsStrIter it n x t (i+1)->Heap.SameBut it s.heap h'->∃ u,some (Value.str ⟨#[x.cps[i]]⟩ s.toks)=some u /\
   wpAny (model X.prog X.w) X.A (letOwnedTupleGo tg (.ref it) u) (λ_ s2=>∃ x_1 H',Inv X pins σ H' s2/\cC x_1 u/\(Its x).yld i H x_1 H'/\s2.heap.IsStrIter it n x t (i+1)/\∀ b∈[it],H' b=none) E { s with heap:=h',toks:=s.toks+1 }:=λh' st' sb=>by
   have I1:Inv X pins σ H { s with heap:=h',toks:=s.toks+1 }:=I.turned (λb o hb e=>(sb.2 b hb).trans e) f0 f1 f3 f4 f5;obtain⟨o,e,c,d⟩:=id st';refine⟨_,rfl,aDm (s:={ s with heap:=h',toks:=s.toks+1 }) e c d (by rcases hn with rfl | rfl <;> decide) ⟨aCu x.cps[i],H,I1,⟨_,rfl⟩,⟨rfl,_,hx,rfl⟩,st',λb hb=>(hf b hb).1⟩⟩
  rcases hn with rfl | rfl
  ·exact wpAny_pyNext_ascii_item st hx fin
  ·exact wpAny_pyNext_wide_item st hx fin
 done:=by
  intro X hP hw hK hc i pins s σ H E I hf st hg;subst hP hw hK;obtain⟨f0,f1,f2,f3,f4,f5⟩:=hf it (by simp);have hg':x.cps.size<=i:=hg;have hx:x.cps[i]?=none:=by simp[hg']
  rcases hn with rfl | rfl
  ·exact wpAny_pyNext_ascii_end (I.ok.hd hc) st hx λh' eb=>⟨rfl,I.turned (t':=s.toks) (λb o hb e=>eb b o hb e) f0 f1 f3 f4 f5⟩
  ·exact wpAny_pyNext_wide_end (I.ok.hd hc) st hx λh' eb=>⟨rfl,I.turned (t':=s.toks) (λb o hb e=>eb b o hb e) f0 f1 f3 f4 f5⟩
 self:=λ_ _ _ _ _ st h=>by
  rcases hn with rfl | rfl
  ·exact wpAny_pyIter_striter_ascii st h
  ·exact wpAny_pyIter_striter_wide st h
section
variable {X:Cx}{tg:Expr}
def aWq (tl:TE):TI:=λσ H R=>tl σ H λv H1=>∃ x,v=.str x/\R (Its x) H1
theorem aQo {l:Expr}{tl:TE}(hl:PE X l tl):PI X tg l (aWq tl):=by
 intro pins s σ H R I h;refine thn (hl pins s σ H _ I h) λv s1 ⟨x,H1,I1,r1,q1⟩=>?_;obtain⟨z,e,q⟩:=q1;subst e;obtain⟨t,rfl⟩:=r1
 have fp:∀ b∈[s1.heap.objs.size],lN X pins H1 b:=λb hb=>by
  have e:b=s1.heap.objs.size:=by simpa using hb
  subst e;exact I1.fpOk (xAh _) (I1.hok.fresh (xAh _))
 cases ha:z.cps.all (·<128)
 ·exact wpAny_pyIter_wide ha ⟨s1.heap.objs.size,[s1.heap.objs.size],_,_,H1,rfl,I1.kept (t':=s1.toks) λb o e=>xAf _ e,wX "str_iterator" _ z t (.inr rfl),⟨_,xAq _ rfl,rfl,rfl⟩,fp,q⟩
 ·exact wpAny_pyIter_ascii ha ⟨s1.heap.objs.size,[s1.heap.objs.size],_,_,H1,rfl,I1.kept (t':=s1.toks) λb o e=>xAf _ e,wX "str_ascii_iterator" _ z t (.inl rfl),⟨_,xAq _ rfl,rfl,rfl⟩,fp,q⟩
end

theorem aGd {prog:Program}{w:World}{A:Around}{R:Result->Shared->Prop}{s:Shared}{elt target iter:Expr}{ifs:List Expr}{scope:Scope}{pos:Pos}{it acc:Value}{env:Env}(I:Nat->Shared->Prop)
  (turn:∀ n s,I n s->wpAny (model prog w) A (pyNext it) (λr s₁=>match r with
   | none=>R (.ok .next) s₁
   | some v=>wpAny (model prog w) A (letOwnedTupleGo target it v) (λ_ s₁'=>wpAny (model prog w) A (assign target env v) (λ_ s₂=>
     wpAny (model prog w) A (forIn ifs true λc r=>if r=true then do let ok <- isTrue c env (eval c env); pure (ForInStep.yield ok) else pure (ForInStep.yield r)) (λok s₃=>
      if ok=true then wpAny (model prog w) A (eval elt env) (λx s₄=>
       wpAny (model prog w) A (call (.builtin "list.append") [acc,x]) (λ_ s₅=>∃ m,m<n/\I m s₅) (λ_ _=>False) s₄) (λ_ _=>False) s₃
      else ∃ m,m<n/\I m s₃) (λ_ _=>False) s₂) (λ_ _=>False) s₁') (λ_ _=>False) s₁) (λ_ _=>False) s)
  (n:Nat)(h:I n s) :
  codeAny (model prog w) A (.compLoop (.ListComp elt [⟨target,iter,ifs,0⟩] scope pos) 0 it acc env) R s:=by
 refine codeAny_loop rfl I (λn s hI=>?_) n h;show wpAny _ A ((compTurn (.ListComp elt [⟨target,iter,ifs,0⟩] scope pos) 0 it acc env).onRaise (λx=>do noteFrame x env; theTreesLotGoes x)) _ _ s;refine wpAny_noted ?_;rw[compTurn_list];refine xAc (xHr (xAc (xCj (turn n s hI) (λr s₁ h₁=>?_) λ_ _ h'=>h'.elim)));cases r with
 | none=>exact xAl h₁
 | some v=>
  refine xAc (xCj h₁ (λ_ s₁' h₁'=>?_) λ_ _ h'=>h'.elim);refine xAc (xCj h₁' (λ_ s₂ h₂=>xAc (xCj h₂ (λok s₃ h₃=>?_) λ_ _ h'=>h'.elim)) λ_ _ h'=>h'.elim);cases ok with
  | false=>exact xAl ⟨rfl,h₃⟩
  | true=>
   exact xAc (xAc (xCj h₃ (λx s₄ h₄=>xAc (xCj h₄ (λ_ s₅ h₅=>xAl (xAl ⟨rfl,h₅⟩)) λ_ _ h'=>h'.elim)) λ_ _ h'=>h'.elim))

def eA (scope:Scope):List Str:=(scope.names.filter λx=>x.2==.free).map (·.1)
def gA (scope:Scope)(env:Env):List (Str×Addr):=(eA scope).foldl (λcs n=>(n,(env.cells.lookup n).getD 0)::cs) []
theorem gW {scope:Scope}{env:Env}(h:∀ n∈eA scope,∃ c,env.cells.lookup n=some c):closureFor scope env=pure (gA scope env):=by
 have go:∀ (names:List (Str×NameKind)) (cs:List (Str×Addr)),(∀ n,(n,NameKind.free)∈names->∃ c,env.cells.lookup n=some c) ->
   (forIn names cs λ(x:Str×NameKind) r=>(do
    let (name,kind):=x
    if kind==.free then
     let a <- cellOf env name
     pure (ForInStep.yield ((name,a)::r))
    else pure (ForInStep.yield r):Sem (ForInStep (List (Str×Addr)))))=pure (((names.filter λx=>x.2==.free).map (·.1)).foldl (λcs n=>(n,(env.cells.lookup n).getD 0)::cs) cs):=by
  intro names
  induction names with
  | nil=>intro cs _; rfl
  | cons x r ih=>
   intro cs hx;obtain⟨n,k⟩:=x;rw[xFx]
   by_cases hk:k=.free
   ·subst hk;obtain⟨c,hc⟩:=hx n (by simp);have e:cellOf env n=pure c:=by unfold cellOf; rw[hc]
    simp only[beq_self_eq_true,if_true,e,pure_bind,List.filter_cons,List.map_cons,List.foldl_cons];rw[ih _ λm hm=>hx m (xBi _ hm),hc];rfl
   ·have hb:(k==NameKind.free)=false:=by simpa using hk
    simp only[hb,Bool.false_eq_true,if_false,pure_bind,List.filter_cons];exact ih _ λm hm=>hx m (xBi _ hm)
 unfold closureFor;have g:=go scope.names [] λn hn=>h n (by unfold eA; exact xAo.mpr ⟨(n,.free),xCd.mpr ⟨hn,by simp⟩,rfl⟩);refine (bind_congr (λ_=>rfl)).trans ?_;exact (congrArg (·>>=λr=>pure r) g).trans (by simp only[pure_bind]; rfl)

theorem lG {env:Env}:∀ (ns:List Str) (cs:List (Str×Addr)),(∀ n∈ns,∃ c,env.cells.lookup n=some c)->(∀ x c,cs.lookup x=some c->env.cells.lookup x=some c) ->
  ∀ x c,(ns.foldl (λcs n=>(n,(env.cells.lookup n).getD 0)::cs) cs).lookup x=some c->env.cells.lookup x=some c
 | [],cs,_,h=>h
 | n::r,cs,hn,h=>by
  refine lG r _ (λm hm=>hn m (xBi _ hm)) λx c e=>?_;rw[xEj] at e;cases q:(x==n) with
  | true=>
   rw[q] at e;have q':x=n:=by simpa using q
   subst q';obtain⟨c',hc⟩:=hn x xBm;rw[hc] at e ⊢;exact e
  | false=>rw[q] at e; exact h x c e
theorem lH {env:Env}:∀ (ns:List Str) (cs:List (Str×Addr)) (x:Str),(x∈ns\/∃ c,cs.lookup x=some c)->∃ c,(ns.foldl (λcs n=>(n,(env.cells.lookup n).getD 0)::cs) cs).lookup x=some c
 | [],cs,x,h=>by
  rcases h with h | h
  ·simp at h
  ·exact h
 | n::r,cs,x,h=>by
  refine lH r _ x ?_;rcases h with h | ⟨c,h⟩
  ·rcases xAk.mp h with rfl | h
   ·exact .inr ⟨(env.cells.lookup x).getD 0,by rw[xEj]; simp⟩
   ·exact .inl h
  ·refine .inr ?_;rw[xEj];cases q:(x==n) with
   | true=>exact⟨_,rfl⟩
   | false=>exact⟨c,h⟩

structure oO (scope:Scope):Prop where
 kind:scope.kind=.function
 cell:∀ y∈scope.names,y.2≠.cell
 loc:∀ y∈scope.names,y.2=.local->scope.names.lookup y.1=some .local
theorem xbs {scope:Scope}(a:scope.kind=.function:=by rfl)(b:∀ y∈scope.names,y.2≠.cell:=by decide +kernel)(c:∀ y∈scope.names,y.2=.local->scope.names.lookup y.1=some .local:=by decide +kernel):oO scope:=⟨a,b,c⟩

theorem jP {env:Env}:∀ {names:List (Str×NameKind)}{x:Str}{k:NameKind},(∀ y∈names,y.2≠.cell) ->
  (names.map λ(n,k)=>if (k==NameKind.free&&env.scope.kind==.function&&env.kindOf n==some .cell) then (n,NameKind.cell) else (n,k)).lookup x=some k->(k=.cell\/k=.free)->(x,NameKind.free)∈names
 | [],_,_,_,h,_=>by simp at h
 | (n,k0)::r,x,k,hc,h,hk=>by
  have ih:=@jP env r x k λy hy=>hc y (xBi _ hy);have hq:List.lookup x ((if (k0==NameKind.free&&env.scope.kind==.function&&env.kindOf n==some .cell)=true then (n,NameKind.cell) else (n,k0))::_)=some k:=h
  have hk0:=hc (n,k0) xBm
  by_cases q:(k0==NameKind.free&&env.scope.kind==.function&&env.kindOf n==some .cell)=true
  ·rw[xAz q,xEj] at hq
   have hf:k0=.free:=by
    rw[xBh,xBh] at q
    simpa using q.1.1
   subst hf;cases hx:x==n with
   | true=>
    have e:x=n:=by simpa using hx
    subst e;exact xBm
   | false=>
    rw[hx] at hq;exact xBi _ (ih hq hk)
  ·rw[xAw q,xEj] at hq;cases hx:x==n with
   | true=>
    rw[hx] at hq;have e:x=n:=by simpa using hx
    subst e;have e2:k0=k:=xBj hq;subst e2;rcases hk with z | z
    ·exact xAu z hk0
    ·rw[z]; exact xBm
   | false=>
    rw[hx] at hq;exact xBi _ (ih hq hk)

def Cx.blk (X:Cx)(scope:Scope)(N':List Str)(C:Addr)(s₃:Shared)(H₃:Hp)(fp:List Addr):Cx:=
 { X with N:=N',s₀:=s₃,H₀:=H₃,env:=compEnvC scope (gA scope X.env) C X.env,outer:=X.stack,stack:=X.stack,ex:=fp,fn:=λ_=>false,pn:=[],xe:=λ_ _=>False }

def dZ (nown:Nat)(js:List Nat)(σ:St):St:=List.replicate nown none++js.map λj=>(σ[j]?).join
structure jL (X:Cx)(scope:Scope)(N':List Str)(nown:Nat)(js:List Nat):Prop where
 len:N'.length=nown+js.length
 at':∀ k j,js[k]?=some j->X.N[j]?=N'[nown+k]?
 cel:∀ n∈eA scope,X.env.kindOf n=some .cell\/X.env.kindOf n=some .free
 fre:∀ k x,nown<=k->N'[k]?=some x->x∈eA scope/\(relabel scope X.env).names.lookup x≠some .local

theorem aGg {X:Cx}{pins:xPn}{σ:St}{H:Hp}{s₃:Shared}{h₁:Heap}{tk:Nat}{scope:Scope}{N':List Str}{nown:Nat}{js:List Nat}{fp:List Addr}
  (I:Inv X pins σ H s₃)(S:oO scope)(B:jL X scope N' nown js)(hfp:∀ b∈fp,lN X pins H b)(hlt:∀ b∈fp,b<s₃.heap.objs.size)
  (hn:h₁.Ns s₃.heap.objs.size (λ_=>none))(hk:∀ b o,s₃.heap.get? b=some o->h₁.get? b=some o) :
  Inv (X.blk scope N' s₃.heap.objs.size s₃ H fp) [] (dZ nown js σ) H { s₃ with heap:=h₁,toks:=tk }:=by
 have hcl:∀ n∈eA scope,∃ c,X.env.cells.lookup n=some c:=λn hn=>I.ok.has n (B.cel n hn);have cl1:∀ x c,(gA scope X.env).lookup x=some c->X.env.cells.lookup x=some c:=lG (eA scope) [] hcl λx c e=>by simp at e
 refine⟨⟨I.ok.mod,S.kind,I.ok.glob,I.ok.blt,xAh _,λx y c h1 h2=>I.ok.inj x y c (cl1 x c h1) (cl1 y c h2),λx hx=>?_,λx c h1 _=>?_,I.ok.hd,I.ok.frames,.inl rfl,λb hb=>⟨xBd (hlt b hb),λx c e=>(hfp b hb).2.2.2.2.1 x c (cl1 x c e)⟩,I.bs,xAs I.ok.bsz I.sz,λb o e hb=>?_,λb hb z=>?_,I.stack,I.stkFree⟩,
  rfl,I.bare,Un.kept hk,⟨_,hn,λi x v h1 h2 h3=>?_⟩,λx c e=>?_,I.hok.fresh (xAh _),λx c e=>I.freeC x c (cl1 x c e),λp hp=>?_,I.hok.kept hk,?_⟩
 ·have hx:(relabel scope X.env).names.lookup x=some .cell\/(relabel scope X.env).names.lookup x=some .free:=hx
  have m:(x,NameKind.free)∈scope.names:=by
   rcases hx with hx | hx
   ·exact jP S.cell hx (.inl rfl)
   ·exact jP S.cell hx (.inr rfl)
  exact lH (eA scope) [] x (.inl (xAo.mpr ⟨(x,.free),xCd.mpr ⟨m,by simp⟩,rfl⟩))
 ·exact xAu h1 (by simp[Cx.blk])
 ·have f:=(hfp b hb).2.2.2.1;rcases f with f | f
  ·exact I.ok.noex b o e f
  ·exact xAu (xAy (xAp (I.ok.bs b o e).1) f) (xDi _)
 ·rcases xAk.mp (I.stkSub b z) with e | e
  ·exact (hfp b hb).2.1 e
  ·exact (hfp b hb).2.2.1 e
 ·-- the names' values
  have h1:N'[i]?=some x:=h1
  have hi:nown<=i:=by
   by_cases q:nown<=i
   ·exact q
   ·exfalso;unfold dZ at h2;rw[xBw (by rw[xDq]; omega),xHy] at h2;split at h2 <;> cases h2
  unfold dZ at h2;rw[xCb (by rw[xDq]; exact hi),xDq,xAj] at h2;cases hj:js[i-nown]? with
  | none=>rw[hj] at h2; cases h2
  | some j=>
   rw[hj] at h2;have h2:some ((σ[j]?).join)=some (some v):=h2
   have e1:σ[j]?=some (some v):=by
    cases q:σ[j]? with
    | none=>rw[q] at h2; cases h2
    | some z=>rw[q] at h2; cases z with
     | none=>cases h2
     | some z=>cases h2; rfl
   have e2:X.N[j]?=some x:=by rw[B.at' _ j hj,show nown+(i-nown)=i by omega]; exact h1
   obtain⟨hfr,hnl⟩:=B.fre i x hi h1;have kx:=B.cel x hfr;obtain⟨m,hm,hl⟩:=I.loc
   obtain⟨u,r,l⟩:=hl j x v e2 e1 (by
    rcases kx with k | k
    ·exact .inr (.inl k)
    ·exact .inr (.inr k))
   refine⟨u,r,.inr ⟨?_,?_⟩⟩
   ·have hv:(relabel scope X.env).names.lookup x=some .local\/(relabel scope X.env).names.lookup x=some .cell\/(relabel scope X.env).names.lookup x=some .free:=h3;exact hv.resolve_left hnl
   ·rcases l with⟨k,_⟩ | ⟨k,c,e,z⟩
    ·rcases kx with k' | k' <;> rw[k] at k' <;> cases k'
    ·obtain⟨c',hc'⟩:=lH (env:=X.env) (eA scope) [] x (.inl hfr);have e3:=cl1 x c' hc';rw[e] at e3;cases e3;obtain⟨o,ho,hd⟩:=z;exact⟨c,hc',o,hk c o ho,hd⟩
 ·obtain⟨v,o,ho,hd⟩:=I.cell x c (cl1 x c e);exact⟨v,o,hk c o ho,hd⟩
 ·exact xAu (show p∈([]:xPn) from hp) (by simp)
 ·unfold dZ;show _=N'.length;rw[xAn,xDq,xAa,B.len]

theorem Inv.back {X:Cx}{pins:xPn}{σ σ':St}{H H':Hp}{s₃ s':Shared}{scope:Scope}{N':List Str}{C:Addr}{fp:List Addr}{pl:xPn}
  (I:Inv X pins σ H s₃)(hfp:∀ b∈fp,lN X pins H b)(J:Inv (X.blk scope N' C s₃ H fp) pl σ' H' s'):Inv X pins σ H' s':=
 I.call' J.os J.base J.hok J.bare λb hb=>⟨(hfp b hb).2.2.2.1,(hfp b hb).2.1,(hfp b hb).2.2.2.2.1,(hfp b hb).2.2.2.2.2⟩

def PTs (X:Cx)(ifs:List Expr)(t:TT):Prop:=
 ∀ (pins:xPn) (s:Shared) (σ:St) (H:Hp) (Q:Bool->Hp->Prop),Inv X pins σ H s->t σ H Q ->
  wpAny (model X.prog X.w) X.A (forIn ifs true λc r=>if r=true then do let ok <- isTrue c X.env (eval c X.env); pure (ForInStep.yield ok) else pure (ForInStep.yield r)) (TP X pins σ Q) X.xe s
def aUj:TT:=λ_ H Q=>Q true H
theorem fS {X:Cx}:PTs X [] aUj:=λ_ _ _ H _ I h=>wpAny_tests_nil ⟨H,I,h⟩
theorem vU {X:Cx}{c:Expr}{t:TT}(h:PT X c t):PTs X [c] t:=λpins s σ H Q I q=>wpAny_tests_one (h pins s σ H Q I q)

def xA (J:It)(D:Addr)(g:TG)(tc:TT)(te:TE)(R:Hp->Prop)(σ:St)(H:Hp):Prop:=
 ∃ W:Nat->Nat->St->Hp->Prop,(∃ m,W 0 m σ H)/\∀ i m σ H,W i m σ H ->
  (J.stop i H/\R H)\/(J.go i H/\∃ N:St->Hp->Prop,(∀ σ' H',N σ' H'->∃ m',m'<m/\W (i+1) m' σ' H')/\∀ x H',J.yld i H x H'->g x σ H' λσ2 H2=>tc σ2 H2 λb H3=>
   if b=true then te σ2 H3 λy H4=>∃ ys,H4 D=some (.lst ys)/\ys.length<sizeLine/\N σ2 (upd H4 D (.lst (ys++[y]))) else N σ2 H3)
def aOl (wi:TI)(nown:Nat)(js:List Nat)(g:TG)(tc:TT)(te:TE):TE:=λσ H Q=>
 wi σ H λJ H1=>∀ D,H1 D=none->xA J D g tc te (λH2=>Q (.ref D) H2) (dZ nown js σ) (upd H1 D (.lst []))

structure Blk (X:Cx)(scope:Scope)(N':List Str)(tg elt:Expr)(ifs:List Expr)(g:TG)(tc:TT)(te:TE):Prop where
 tg:∀ C s₃ H₃ fp,PG (X.blk scope N' C s₃ H₃ fp) tg g
 tc:∀ C s₃ H₃ fp,PTs (X.blk scope N' C s₃ H₃ fp) ifs tc
 te:∀ C s₃ H₃ fp,PE (X.blk scope N' C s₃ H₃ fp) elt te

theorem sX {X:Cx}{tg elt iter:Expr}{ifs:List Expr}{scope:Scope}{pos:Pos}{N':List Str}{nown:Nat}{js:List Nat}{g:TG}{tc:TT}{te:TE}{E:xVP}
  (hc:X.calm=true)(S:oO scope)(B:jL X scope N' nown js)(K:Blk X scope N' tg elt ifs g tc te)
  {pins:xPn}{σ:St}{H2:Hp}{s₂:Shared}{it:Addr}{fp:List Addr}{tn:Nat->Heap->Prop}{J:It}{Q:VK}{RR:Value->Addr->Result->Shared->Prop}
  (I2:Inv X pins σ H2 s₂)(T:zC X.prog X.w X.K tg J fp it tn)(st2:tn 0 s₂.heap)(f2:∀ b∈fp,lN X pins H2 b)
  (h:∀ D,H2 D=none->xA J D g tc te (λH'=>Q (.ref D) H') (dZ nown js σ) (upd H2 D (.lst [])))
  (hRR:∀ (D C:Addr) (H':Hp) (s':Shared),Inv X pins σ H' s'->(∃ m,s'.heap.Ns C m)->(∀ h',Heap.SameBut C s'.heap h'->Inv X pins σ H' { s' with heap:=h' })->lN X pins H' C->Q (.ref D) H'->RR (.ref D) C (.ok .next) s') :
  wpAny (model X.prog X.w) X.A (newList []) (λacc s₃=>wpAny (model X.prog X.w) X.A (newFunctionEnv scope X.env.globals (gA scope X.env) [] X.env.qual none .none (some X.env)) (λcenv s₄=>
   codeAny (model X.prog X.w) X.A (.compStart (.ListComp elt [⟨tg,iter,ifs,0⟩] scope pos) 0 (.ref it) acc { cenv with scope:=relabel scope X.env }) (RR acc cenv.locals) s₄) E s₃) E s₂:=by
 have hD:H2 s₂.heap.objs.size=none:=I2.hok.fresh (xAh _);have k3:∀ b o,s₂.heap.get? b=some o->(s₂.heap.push { cls:=.type "list",dict:=none,data:=.seq ([]:List Value).toArray }).get? b=some o:=λb o e=>xAf _ e
 have I3:Inv X pins σ (upd H2 s₂.heap.objs.size (.lst [])) { s₂ with heap:=s₂.heap.push { cls:=.type "list",dict:=none,data:=.seq ([]:List Value).toArray } }:=
  I2.laid (t':=s₂.toks) k3 (xAh _) ⟨xBu _,[],0,.nil,xAq _ rfl⟩
 have lt2:∀ b∈fp,b<s₂.heap.objs.size:=λb hb=>let ⟨o,e,_⟩:=T.obj 0 _ st2 b hb; xAp e;have f3:∀ b∈fp,lN X pins (upd H2 s₂.heap.objs.size (.lst [])) b:=λb hb=>⟨by rw[aH (xBd (lt2 b hb))]; exact (f2 b hb).1,(f2 b hb).2⟩;have st3:=T.keep 0 _ _ st2 λb _ o e=>k3 b o e;obtain⟨W,⟨m0,w0⟩,turn⟩:=h _ hD;refine xCc (wpAny_newFunctionEnv S.cell (by intro y hy; simp at hy) (λh₁ hns₁ hsb₁=>?_) S.kind);dsimp only at hns₁ hsb₁ ⊢;generalize hs3:({ s₂ with heap:=s₂.heap.push { cls:=.type "list",dict:=none,data:=.seq ([]:List Value).toArray } }:Shared)=s₃ at I3;have h3:s₂.heap.push { cls:=.type "list",dict:=none,data:=.seq ([]:List Value).toArray }=s₃.heap:=by rw[<- hs3]
 rw[h3] at hns₁ hsb₁ st3 ⊢;have k4:∀ b o,s₃.heap.get? b=some o->h₁.get? b=some o:=λb o e=>hsb₁.extBut b o (xBd (xAp e)) (xAf _ e)
 have hns:h₁.Ns s₃.heap.objs.size (λ_=>none):=by
  obtain⟨o,es,ep,e,d,k,r⟩:=hns₁;exact⟨o,es,ep,e,d,k,λn=>by rw[r n]; rfl⟩
 have lt3:∀ b∈fp,b<s₃.heap.objs.size:=λb hb=>let ⟨o,e,_⟩:=T.obj 0 _ st3 b hb; xAp e;have J0:∀ tk,Inv (X.blk scope N' s₃.heap.objs.size s₃ (upd H2 s₂.heap.objs.size (.lst [])) fp) [] (dZ nown js σ) (upd H2 s₂.heap.objs.size (.lst [])) { s₃ with heap:=h₁,toks:=tk }:=λtk=>aGg I3 S B f3 lt3 hns k4
 have loop:∀ s4:Shared,s4={ s₃ with heap:=h₁,toks:=s₂.toks+([]:List (Str×Value)).length } ->
   codeAny (model X.prog X.w) X.A (.compLoop (.ListComp elt [⟨tg,iter,ifs,0⟩] scope pos) 0 (.ref it) (.ref s₂.heap.objs.size) (compEnvC scope (gA scope X.env) s₃.heap.objs.size X.env)) (RR (.ref s₂.heap.objs.size) s₃.heap.objs.size) s4:=by
  rintro s4 rfl
  have Y:∀ b∈fp,lN (X.blk scope N' s₃.heap.objs.size s₃ (upd H2 s₂.heap.objs.size (.lst [])) fp) [] (upd H2 s₂.heap.objs.size (.lst [])) b:=λb hb=>by
   have F:=f3 b hb;refine⟨F.1,xBd (lt3 b hb),λz=>?_,.inl hb,(J0 0).ok.exf b hb |>.2,λp hp=>xAu (show p∈([]:xPn) from hp) (by simp)⟩
   exact (J0 0).ok.exfs b hb z
  have stat:∀ {H':Hp},(∀ b∈fp,H' b=none)->∀ b∈fp,lN (X.blk scope N' s₃.heap.objs.size s₃ (upd H2 s₂.heap.objs.size (.lst [])) fp) [] H' b:=λhn b hb=>⟨hn b hb,(Y b hb).2⟩
  refine aGd (λn s'=>∃ i σ' H',Inv (X.blk scope N' s₃.heap.objs.size s₃ (upd H2 s₂.heap.objs.size (.lst [])) fp) [] σ' H' s'/\tn i s'.heap/\(∀ b∈fp,H' b=none)/\W i n σ' H') ?_ m0
   ⟨0,_,_,J0 _,T.keep 0 _ _ st3 λb _ o e=>k4 b o e,λb hb=>(f3 b hb).1,w0⟩
  rintro n s5 ⟨i,σ5,H5,I5,st5,fr5,w5⟩;rcases turn i n σ5 H5 w5 with⟨stop,qn⟩ | ⟨go,N,hN,step⟩
  ·refine thn (T.done (X.blk scope N' s₃.heap.objs.size s₃ (upd H2 s₂.heap.objs.size (.lst [])) fp) rfl rfl rfl hc i [] s5 σ5 H5 _ I5 (stat fr5) st5 stop) λr s6 ⟨hr,I6⟩=>?_;subst hr;have I6':Inv X pins σ H5 s6:=I3.back f3 I6;have hC:lN X pins H5 s₃.heap.objs.size:=I3.fpOk (xAh _) I6.free;refine hRR _ _ H5 s6 I6' (let ⟨m,hm,_⟩:=I6.loc; ⟨m,hm⟩) (λh' sb=>?_) hC qn;exact I6'.turned (t':=s6.toks) (λb o hb e=>(sb.2 b hb).trans e) hC.1 hC.2.1 hC.2.2.2.1 hC.2.2.2.2.1 hC.2.2.2.2.2
  ·refine thn (T.item (X.blk scope N' s₃.heap.objs.size s₃ (upd H2 s₂.heap.objs.size (.lst [])) fp) rfl rfl rfl hc i [] s5 σ5 H5 _ I5 (stat fr5) st5 go) λr s6 ⟨u,hr,h6⟩=>?_;subst hr;refine thn h6 λ_ s7 ⟨x,H7,I7,r7,y7,st7,fr7⟩=>?_;have I7':=I7.pinned (stat fr7) (T.obj _ _ st7)
   have again:∀ {σ9:St}{H9:Hp}{s9:Shared},Inv (X.blk scope N' s₃.heap.objs.size s₃ (upd H2 s₂.heap.objs.size (.lst [])) fp) ([]++sD fp s7.heap) σ9 H9 s9->N σ9 H9 ->
     ∃ m,m<n/\∃ i σ' H',Inv (X.blk scope N' s₃.heap.objs.size s₃ (upd H2 s₂.heap.objs.size (.lst [])) fp) [] σ' H' s9/\tn i s9.heap/\(∀ b∈fp,H' b=none)/\W i m σ' H':=λ{σ9 H9 s9} I9 n9=>by
    obtain⟨m',hm,w9⟩:=hN σ9 H9 n9;refine⟨m',hm,i+1,σ9,H9,I9.unpinned,T.keep _ _ _ st7 λb hb o e=>(I9.pin (b,o) (xBp _ (xBp _ (jW hb e)))).1,λb hb=>?_,w9⟩;obtain⟨o,e,d⟩:=T.obj _ _ st7 b hb;exact (I9.pin (b,o) (xBp _ (xBp _ (jW hb e)))).2.1
   refine thn (K.tg _ _ _ _ _ s7 σ5 H7 x u _ I7' r7 (step x H7 y7)) λ_ s8 ⟨σ8,H8,I8,q8⟩=>?_;refine thn (K.tc _ _ _ _ _ s8 σ8 H8 _ I8 q8) λok s9 ⟨H9,I9,q9⟩=>?_;cases ok with
   | false=>exact again I9 q9
   | true=>
    rw[xAz rfl] at q9 ⊢;refine thn (K.te _ _ _ _ _ s9 σ8 H9 _ I9 q9) λy s10 ⟨yv,H10,I10,r10,ys,e10,l10,q10⟩=>?_;refine thn (iF _ s10 σ8 H10 (.ref s₂.heap.objs.size) [yv] (.ref s₂.heap.objs.size) [y] (λv H'=>N σ8 H') I10 rfl (.cons r10 .nil) ⟨_,ys,yv,rfl,rfl,e10,l10,q10⟩) λ_ s11 ⟨_,H11,I11,_,q11⟩=>again I11 q11
 have fin:=loop _ rfl;have e4:({ s₂ with heap:=h₁,toks:=s₂.toks+([]:List (Str×Value)).length }:Shared)={ s₃ with heap:=h₁,toks:=s₂.toks+([]:List (Str×Value)).length }:=by rw[<- hs3]
 rw[<- e4] at fin;refine codeAny_compStart_list fin (T.self _ 0 _ _ _ ?_ fin);exact T.keep 0 _ _ st3 λb _ o e=>k4 b o e

section
variable {X:Cx}{tg elt iter:Expr}{ifs:List Expr}{scope:Scope}{pos:Pos}{N':List Str}{nown:Nat}{js:List Nat}{wi:TI}{g:TG}{tc:TT}{te:TE}
theorem gI (hc:X.calm=true)(S:oO scope)(B:jL X scope N' nown js)(K:Blk X scope N' tg elt ifs g tc te)(hi:PI X tg iter wi)
  (hs:∀ x,foldedSetIterable iter X.env x=pure x:=by intro _; rfl):PE X (.ListComp elt [⟨tg,iter,ifs,0⟩] scope pos) (aOl wi nown js g tc te):=by
 intro pins s σ H Q I h;have hcl:closureFor scope X.env=pure (gA scope X.env):=gW λn hn=>I.ok.has n (B.cel n hn);rw[eval_ListComp];refine xHm (use:=none) rfl hs hcl S.kind S.loc (thn (hi pins s σ H _ I h) λxv s₁ h₁=>thn h₁ λitv s₂ h₂=>?_);obtain⟨it,fp,tn,J,H2,e,I2,T,st2,f2,q⟩:=h₂;subst e;refine sX (RR:=λacc C=>compPost (model X.prog X.w) X.A X.xe none (EP X pins σ Q) acc C) hc S B K I2 T st2 f2 q λD C H' s' I' hm k hC qq=>?_;obtain⟨m,hm⟩:=hm;exact⟨m,hm,λh' sb=>⟨.ref D,H',k h' sb,rfl,qq⟩⟩
theorem jR {i:Nat}{x:Str}{px spos:Pos}(hsw:swapsWith (.ListComp elt [⟨tg,iter,ifs,0⟩] scope pos) (some (.Name x px)) spos.line X.env=pure true)(hN:X.N.Nodup)(hi':X.N[i]?=some x)(hx:X.env.scope.names.lookup x=some .local)
  (hc:X.calm=true)(S:oO scope)(B:jL X scope N' nown js)(K:Blk X scope N' tg elt ifs g tc te)(hi:PI X tg iter wi)
  (hs:∀ x,foldedSetIterable iter X.env x=pure x:=by intro _; rfl):PS X (.Assign [.Name x px] (.ListComp elt [⟨tg,iter,ifs,0⟩] scope pos) spos) (aLz (aOl wi nown js g tc te) (jI i)):=by
 intro pins s σ H D I h;have hcl:closureFor scope X.env=pure (gA scope X.env):=gW λn hn=>I.ok.has n (B.cel n hn);rw[exec_Assign_Name_used _ _ _ _ hsw];refine xAc (xHr (xAc ?_));show wpAny _ _ (do let _ <- comprehension (.ListComp elt [⟨tg,iter,ifs,0⟩] scope pos) scope X.env _ (newList []) false (eval iter X.env) (some (assign (.Name x px) X.env))) _ _ s
 refine xAc (xCj (xHm (use:=some (assign (.Name x px) X.env)) (Q:=λ_ s'=>SP X pins D .next s') rfl hs hcl S.kind S.loc (thn (hi pins s σ H _ I h) λxv s₁ h₁=>thn h₁ λitv s₂ h₂=>?_))
  (λ_ s' hq=>xAl (xAl hq)) λ_ _ e=>e)
 obtain⟨it,fp,tn,J,H2,e,I2,T,st2,f2,q⟩:=h₂;subst e;refine sX (RR:=λacc C=>compPost (model X.prog X.w) X.A X.xe (some (assign (.Name x px) X.env)) (λ_ s'=>SP X pins D .next s') acc C) (Q:=λv H'=>D.nx (σ.set i (some v)) H') hc S B K I2 T st2 f2 q λDa C H' s' I' hm k hC qq=>?_;show wpAny _ _ (assign (.Name x px) X.env (.ref Da)) _ _ _;refine wpAny_assign_Name (tZ I' hN hi' (.inl hx) (v:=.ref Da) rfl (λs'' I'' ⟨a,sb,ha⟩=>?_) (.inr hx))
 have hCa:C≠a:=by
  rcases ha with rfl | ha
  ·exact hC.2.1
  ·exact λz=>hC.2.2.2.2.1 x a ha z.symm
 obtain⟨m,hm⟩:=hm;refine⟨m,hm.sameBut sb hCa,λh' sb'=>⟨_,H',?_,qq⟩⟩;exact I''.turned (t':=s''.toks) (λb o hb e=>(sb'.2 b hb).trans e) hC.1 hC.2.1 hC.2.2.2.1 hC.2.2.2.2.1 hC.2.2.2.2.2
end

theorem iP {K:xAb}{a D:Addr}{xs:List V}{g:TG}{tc:TT}{te:TE}{R:Hp->Prop}{σ:St}{H:Hp}(Pv:Nat->St->Hp->Prop)(h0:Pv 0 σ H)
  (hl:∀ i σ H,i<=xs.length->Pv i σ H->SqL K H a xs)
  (hs:∀ i x σ H,xs[i]?=some x->Pv i σ H->g x σ H λσ2 H2=>tc σ2 H2 λb H3=>if b=true then te σ2 H3 λy H4=>∃ ys,H4 D=some (.lst ys)/\ys.length<sizeLine/\Pv (i+1) σ2 (upd H4 D (.lst (ys++[y]))) else Pv (i+1) σ2 H3)
  (hd:∀ σ H,Pv xs.length σ H->R H):xA (Itl K a) D g tc te R σ H:=by
 refine⟨λi m σ H=>m=xs.length-i/\i<=xs.length/\Pv i σ H,⟨xs.length,by simp,xBu _,h0⟩,?_⟩;rintro i m σ H ⟨rfl,hi,p⟩;have q:=hl i σ H hi p
 by_cases hlt:i<xs.length
 ·refine .inr ⟨⟨xs,xs[i],q,by simp[hlt]⟩,Pv (i+1),λσ' H' p'=>⟨xs.length-(i+1),by omega,rfl,hlt,p'⟩,λx H' y=>?_⟩;obtain⟨e,y⟩:=y;subst e;exact hs i x σ _ (y xs q) p
 ·have e:i=xs.length:=by omega
  subst e;exact .inl ⟨⟨xs,q,xAh _⟩,hd σ H p⟩
theorem pP {lo:Int}{n:Nat}{D:Addr}{g:TG}{tc:TT}{te:TE}{R:Hp->Prop}{σ:St}{H:Hp}(Pv:Nat->St->Hp->Prop)(h0:Pv 0 σ H)
  (hs:∀ i σ H,i<n->Pv i σ H->g (.int (lo+i)) σ H λσ2 H2=>tc σ2 H2 λb H3=>if b=true then te σ2 H3 λy H4=>∃ ys,H4 D=some (.lst ys)/\ys.length<sizeLine/\Pv (i+1) σ2 (upd H4 D (.lst (ys++[y]))) else Pv (i+1) σ2 H3)
  (hd:∀ σ H,Pv n σ H->R H):xA (Itr lo n) D g tc te R σ H:=by
 refine⟨λi m σ H=>m=n-i/\i<=n/\Pv i σ H,⟨n,by simp,xBu _,h0⟩,?_⟩;rintro i m σ H ⟨rfl,hi,p⟩
 by_cases hlt:i<n
 ·refine .inr ⟨hlt,Pv (i+1),λσ' H' p'=>⟨n-(i+1),by omega,rfl,hlt,p'⟩,λx H' y=>?_⟩;obtain⟨e,y⟩:=y;subst e y;exact hs i σ _ hlt p
 ·have e:i=n:=by omega
  subst e;exact .inl ⟨xAh _,hd σ H p⟩
theorem aNx {x:Str}{D:Addr}{g:TG}{tc:TT}{te:TE}{R:Hp->Prop}{σ:St}{H:Hp}(Pv:Nat->St->Hp->Prop)(h0:Pv 0 σ H)
  (hs:∀ i c σ H,x.cps[i]?=some c->Pv i σ H->g (aCu c) σ H λσ2 H2=>tc σ2 H2 λb H3=>if b=true then te σ2 H3 λy H4=>∃ ys,H4 D=some (.lst ys)/\ys.length<sizeLine/\Pv (i+1) σ2 (upd H4 D (.lst (ys++[y]))) else Pv (i+1) σ2 H3)
  (hd:∀ σ H,Pv x.cps.size σ H->R H):xA (Its x) D g tc te R σ H:=by
 refine⟨λi m σ H=>m=x.cps.size-i/\i<=x.cps.size/\Pv i σ H,⟨x.cps.size,by simp,xBu _,h0⟩,?_⟩;rintro i m σ H ⟨rfl,hi,p⟩
 by_cases hlt:i<x.cps.size
 ·refine .inr ⟨hlt,Pv (i+1),λσ' H' p'=>⟨x.cps.size-(i+1),by omega,rfl,hlt,p'⟩,λv H' y=>?_⟩;obtain⟨e,c,hc,rfl⟩:=y;subst e;exact hs i c σ _ hc p
 ·have e:i=x.cps.size:=by omega
  subst e;exact .inl ⟨xAh _,hd σ H p⟩

section
variable {X:Cx}{e:Expr}{te:TE}{lo hi:Option Expr}{tl th:TO}{pos p2:Pos}
end

section
variable {X:Cx}
theorem aBz:∀ {bs:List Bool}{us:List Value},bU (bs.map V.bl) us->∀ (i:Nat) (v:Value),us[i]?=some v->∃ b,bs[i]?=some b/\v=.bool b
 | [],_,.nil,_,_,e=>by simp at e
 | b::bs,_,.cons r rr,0,v,e=>by
  cases r;simp at e;exact⟨b,rfl,e.symm⟩
 | b::bs,_,.cons r rr,i+1,v,e=>by
  obtain⟨c,h1,h2⟩:=aBz (bs:=bs) rr i v (by simpa using e);exact⟨c,by simpa using h1,h2⟩
inductive aXh (K:xAb)(xs:List V)(H:Hp)(Q:VK):Prop
 | mk (a:Addr)(bs:List Bool)(h0_:xs=[.ref a])(h1_:SqL K H a (bs.map V.bl))(h2_:Q (.bl (bs.all id)) H)
theorem uX (hc:X.calm=true):CallR X (.builtin "all") (aXh X.K):=by
 intro pins s σ H xs us Q I r h;obtain⟨a,bs,rfl,hs,q⟩:=h;obtain⟨u,rfl,rx⟩:=kH r;cases rx;obtain⟨its,rv,pl,hz⟩:=I.list hs;have hl:=pl.isList;have hlt:a<s.heap.objs.size:=by obtain⟨_,e,_⟩:=hl; exact xAp e
 have hlen:its.length=bs.length:=by rw[<- rv.length,xAa]
 refine call_all_walk (xFb hl ⟨s.heap.objs.size,[s.heap.objs.size,a],[s.heap.objs.size],its.toArray.size,_,_,λi=>(bs[i]?).getD true,rfl,
  Walks.list (A:=X.A.in1) (I.ok.hd hc) _ a (xBd hlt) its.toArray,⟨⟨_,xAq _ rfl,rfl,rfl⟩,hl.push _⟩,λi v s' Q' E' hP hQ=>?_,λh' tk hk=>?_⟩)
 ·obtain⟨b,eb,rfl⟩:=aBz rv i v (by simpa using hP);simp only[eb,Option.getD_some] at hQ;exact xCf hQ
 ·have ea:((List.range its.toArray.size).all λi=>(bs[i]?).getD true)=bs.all id:=by
   rw[xAv,hlen];exact LSm.range_all bs
  rw[ea];exact⟨.bl (bs.all id),H,I.kept (LSm.kept_iter hk),rfl,q⟩
inductive aTy (K:xAb)(xs:List V)(H:Hp)(Q:VK):Prop
 | mk (x:_)(c:_)(cv:_)(t:_)(b:_)(h0_:xs=[x,c])(h1_:(∀ u,cC c u->u=cv))(h2_:jD K H x t)(h3_:kitOne K t cv=some b)(h4_:Q (.bl b) H)
theorem tE:CallR X (.builtin "isinstance") (aTy X.K):=by
 intro pins s σ H xs us Q I r h;obtain⟨x,c,cv,t,b,rfl,hc,ty,e,q⟩:=h;obtain⟨u,w',rfl,rx,rc⟩:=aGo r;have ec:=hc w' rc;subst ec;exact aFs I rx ty e λtk=>⟨.bl b,H,I.tok tk,rfl,q⟩
theorem jQ {T:String}:∀ u,cC (.ty T) u->u=.type T:=λ_ r=>r
theorem vT {a:Addr}:∀ u,cC (.ref a) u->u=.ref a:=λ_ r=>r
end

def aUq (P:St->Hp->Prop)(t u:TS):TS:=λD σ H=>t { D with nx:=P } σ H/\∀ σ' H',P σ' H'->u D σ' H'
theorem nV {X:Cx}{st:Stmt}{rest:List Stmt}{t u:TS}(P:St->Hp->Prop)(h1:PS X st t)(h2:PSs X rest u):PSs X (st::rest) (aUq P t u):=by
 intro pins s σ H D I h;obtain⟨ht,hu⟩:=h;refine xFj (thn (h1 pins s σ H { D with nx:=P } I ht) λf s1 q=>?_);cases f with
 | next=>
  obtain⟨σ',H',I',q⟩:=q;exact h2 pins s1 σ' H' D I' (hu σ' H' q)
 | ret v=>exact q
 | brk=>exact q
 | cont=>exact q
namespace Bo
theorem isinstance:bootBuiltins "isinstance" = some (.builtin "isinstance"):=by decide +kernel
theorem str:bootBuiltins "str" = some (.type "str"):=by decide +kernel
theorem bool:bootBuiltins "bool" = some (.type "bool"):=by decide +kernel
theorem int:bootBuiltins "int" = some (.type "int"):=by decide +kernel
theorem list:bootBuiltins "list" = some (.type "list"):=by decide +kernel
theorem tuple:bootBuiltins "tuple" = some (.type "tuple"):=by decide +kernel
theorem all:bootBuiltins "all" = some (.builtin "all"):=by decide +kernel
theorem len:bootBuiltins "len" = some (.builtin "len"):=by decide +kernel
theorem sorted:bootBuiltins "sorted" = some (.builtin "sorted"):=by decide +kernel
theorem enumerate:bootBuiltins "enumerate" = some (.type "enumerate"):=by decide +kernel
end Bo
def xM (scope sc:Scope):List (Str×NameKind):=scope.names.map λ(n,k)=>if (k==.free&&sc.kind==.function&&sc.names.lookup n==some .cell) then (n,.cell) else (n,k)
def aPj (sc scope:Scope)(N N':List Str)(nown:Nat)(js:List Nat):Bool:=
 decide (N'.length=nown+js.length)&&(List.range js.length).all (λk=>decide (N[js.getD k 0]?=N'[nown+k]?))
  && (eA scope).all (λn=>decide (sc.names.lookup n=some .cell)||decide (sc.names.lookup n=some .free))
  && (List.range js.length).all (λk=>match N'[nown+k]? with | some x=>decide (x∈eA scope)&&decide ((xM scope sc).lookup x≠some .local) | none=>false)
theorem dF {X:Cx}{scope:Scope}{N':List Str}{nown:Nat}{js:List Nat}(sc:Scope)(N:List Str)(hsc:X.env.scope=sc)(hN:X.N=N)(h:aPj sc scope N N' nown js=true):jL X scope N' nown js:=by
 subst hsc hN;unfold aPj at h;rw[Bool.and_eq_true,Bool.and_eq_true,Bool.and_eq_true] at h;obtain⟨⟨⟨h1,h2⟩,h3⟩,h4⟩:=h;have h1:=of_decide_eq_true h1;refine⟨h1,λk j e=>?_,λn hn=>?_,λk x hk e=>?_⟩
 ·have hk:k<js.length:=(List.getElem?_eq_some_iff.mp e).1;have q:=of_decide_eq_true (List.all_eq_true.mp h2 k (List.mem_range.mpr hk));have ej:js.getD k 0=j:=by rw[List.getD_eq_getElem?_getD,e]; rfl
  rw[ej] at q;exact q
 ·have q:=List.all_eq_true.mp h3 n hn;rw[Bool.or_eq_true] at q;exact q.imp (λz=>of_decide_eq_true z) λz=>of_decide_eq_true z
 ·have hl:k<N'.length:=(List.getElem?_eq_some_iff.mp e).1;have q:=List.all_eq_true.mp h4 (k-nown) (List.mem_range.mpr (by omega));have ek:nown+(k-nown)=k:=by omega
  rw[ek,e] at q;have q':(decide (x∈eA scope)&&decide ((xM scope X.env.scope).lookup x≠some .local))=true:=q;rw[Bool.and_eq_true] at q';exact⟨of_decide_eq_true q'.1,of_decide_eq_true q'.2⟩

def kX:Expr->Bool
 | .Starred ..=>true
 | _=>false
theorem cK {e:Expr}{es:List Expr}{env:Env}(h:kX e=false):starEach (e::es) env=(false,eval e env)::starEach es env:=by
 cases e <;> first | rfl | cases h
theorem pac {X:Cx}{e:Expr}{es:List Expr}{te:TE}{t:TA}(ha:PE X e te)(hr:PA X es t)(hs:kX e=false:=by rfl):PA X (e::es) (iT te t):=iB ha hr (cK hs)

end L2
namespace L2
open PySem PySem.W
section
variable {X:Cx}{D:tL}{s1 s2 s3 s4 s5:Stmt}{rest:List Stmt}{t1 t2 t3 t4 t5:TS}{J:St->Hp->Prop}
end
end L2
namespace L2
open PySem PySem.Spec PyProof.Rows PySem.W

inductive CXE (P:Program)(w:World)(outer:List Env)(H:Hp)(s:Shared)(E:XK)(ev:Value)(s':Shared):Prop
 | mk (e t:Addr)(cls:Value)(vs:List Value)(H':Hp)(B:Heap)(h1:ev=.ref e)(h2:s'.os=s.os)(h3:AllBare s'.gens)(h4:Un (frs outer) [] H H' s.heap s'.heap)(h5:HOk P w H' s'.heap)
  (h6:Heap.FlyingW B outer e cls (.ref t) s'.heap)(h7:s'.heap.TupAt t vs)(h8:B.get? t=none)
  (h9:∀ b o,s.heap.get? b=some o->H b=none->b∉frs outer->B.get? b=some o)(h10:∀ b u,H' b=some u->∃ o,B.get? b=some o)
  (h11:∀ b o,s.heap.get? b=some o->b∉frs outer->∃ o',B.get? b=some o')(h12:E cls none H')
theorem HOk.inB {P:Program}{w:World}{H:Hp}{h h' B:Heap}(x:HOk P w H h)(k:B.StaysIn h)(k':B.StaysIn h')(t:∀ b u,H b=some u->∃ o,B.get? b=some o):HOk P w H h':=λa o e=>by
 refine (x a o e).stay (λb u hb q=>?_) (λ_ q=>q) λ_ _ q=>q
 have hs:∃ v,H b=some v:=by
  rcases hb with rfl | hb
  ·exact⟨o,e⟩
  ·exact⟨_,hb⟩
 obtain⟨v,hv⟩:=hs;obtain⟨o',ho⟩:=t b v hv
 have:=k b o' ho
 rw[q] at this;cases this;exact k' b u ho
structure Cx.Body (X:Cx)(E:XK):Prop where
 xe:X.xe=λev s'=>wpAny (model X.prog X.w) X.A (leaving X.env ev) (λ_ s''=>CXE X.prog X.w X.outer X.H₀ X.s₀ E ev s'') (λev' s''=>CXE X.prog X.w X.outer X.H₀ X.s₀ E ev' s'') s'
 stk:X.stack=X.env::X.outer
 frm:X.env.frame=some X.env.locals
 ex:X.ex=[]
theorem qV {P:Program}{w:World}{K:xAb}{mg:xSO}{base:Heap}{N:List Str}{qual:Str}{scope:Scope}{f:Addr}{cd:Value}{A:Around}{outer:List Env}{s:Shared}{H:Hp}{E:XK} :
  (jJ (CXE P w) P w K mg base N qual scope f cd A outer s H E).Body E:=⟨rfl,rfl,rfl,rfl⟩
section
variable {X:Cx}{E:XK}
theorem Cx.Body.stkFrs (D:X.Body E):frs X.stack=X.env.locals::X.fs:=by
 rw[D.stk];show List.filterMap _ (X.env::X.outer)=_;rw[xEt,D.frm];rfl
theorem Cx.Body.passes (D:X.Body E){E':XK}(hE:∀ c d H',E' c d H'->E c d H'):eN (CXE X.prog X.w) X E':=by
 intro pins σ H s ev s' I h;obtain⟨e,t,cls,vs,H',B,rfl,h2,h3,h4,h5,h6,h7,h8,h9,h10,h12,h11⟩:=h;have J:Inv X pins σ H' s':=I.call' (ch:=[]) h2 h4 h5 h3 λ_ z=>nomatch z;rw[D.xe];show wpAny (model X.prog X.w) X.A (leaving X.env (.ref e)) _ _ s';have hfr:X.A.frames=some (X.env::X.outer):=by rw[I.ok.frames,D.stk]
 rw[D.stk] at h6;refine wpAny_leaves_onW hfr D.frm h6 λh' f1 f2=>?_;have neL:∀ b o,X.s₀.heap.get? b=some o->b≠X.env.locals:=λb o q=>xBd (xAy (xAp q) I.ok.above)
 have inB:∀ b o,X.s₀.heap.get? b=some o->X.H₀ b=none->b∉X.fs->B.get? b=some o:=λb o q n hb=>by
  have nex:b∉X.ex:=by rw[D.ex]; simp
  refine h9 b o (I.base.keep b o q n hb nex) (I.base.free b o q n nex) ?_;rw[D.stkFrs];intro z;rcases xAk.mp z with z | z
  ·exact neL b o q z
  ·exact hb z
 have allB:∀ b o,X.s₀.heap.get? b=some o->b∉X.fs->∃ o',B.get? b=some o':=λb o q hb=>by
  obtain⟨o1,q1⟩:=I.base.there b o q (by rw[D.ex]; simp);refine h12 b o1 q1 ?_;rw[D.stkFrs];intro z;rcases xAk.mp z with z | z
  ·exact neL b o q z
  ·exact hb z
 refine⟨e,t,cls,vs,H',B,rfl,J.os,h3,⟨λb o q n hb _=>f1.1 b o (inB b o q n hb),λb o q n hb _=>?_,λb o q n _=>J.base.free b o q n (by rw[D.ex]; simp),λb o q _=>?_,J.base.tups,J.base.frzs,J.base.tbls⟩,?_,f1,h7.of_slots f2,h8,inB,h10,allB,hE _ _ _ h11⟩
 ·obtain⟨sl,e1⟩:=J.base.slot b o q n hb (by rw[D.ex]; simp)
  obtain⟨L,oL,hL,hn⟩:=(show ∃ L o,L=b/\s'.heap.get? L=some o/\∀ vs,o.data≠.fields vs from by
   obtain⟨_,oo,hoo,hnf⟩:=(J.funs).mem hb;exact⟨b,oo,rfl,hoo,hnf⟩)
  obtain⟨rfl,hn,hnf⟩:L=b/\s'.heap.get? L=some oL/\∀ vs,oL.data≠.fields vs:=⟨hL,hn.1,hn.2⟩;obtain⟨sl',e2⟩:=f2 L oL hn hnf;rw[e1] at hn;cases hn;exact⟨sl',e2⟩
 ·by_cases hb:b∈X.fs
  ·obtain⟨_,o',ho',_⟩:=f1.2.2.1.mem hb;exact⟨o',ho'⟩
  ·obtain⟨o',ho'⟩:=allB b o q hb;exact⟨o',f1.1 b o' ho'⟩
 ·exact h5.inB h6.1 f1.1 h10
end

abbrev aOh:List Value:=[.type "ValueError",.type "Exception",.type "BaseException",.type "object"]
def nF (K:xAb)(C:Addr):Prop:=excIn K C aOh "ValueError.__new__"=true
theorem nF.at {K:xAb}{C:Addr}{h:Heap}(q:nF K C)(X:K.In h):∃ bm N nm qn bs hd sn sub ab col dd k0 k1 k2 k3 k5 mN,
  h.get? C=some (excClassObj nm qn C N bs bm hd sn sub ab col dd k0 k1 k2 k3 k5 "ValueError.__new__")/\h.Ns N mN/\mN "__init__" = none/\OwnTail h aOh bm:=by
 unfold nF excIn at q;cases hl:K.lookup C with
 | none=>rw[hl] at q; cases q
 | some o=>
  rw[hl] at q;split at q
  ·rename_i dd cd sl ho
   cases ho;split at q
   ·rename_i C' bm k0 k1 k2 k3 n k5 hm hs
    rw[xBh,xBh,xBh,xBh,xBh] at q;obtain⟨⟨⟨⟨⟨q1,q2⟩,q3⟩,q4⟩,q5⟩,q6⟩:=q;have e1:C'=C:=by simpa using q1
    have e2:n="ValueError.__new__":=by simpa using q2
    subst e1 e2;obtain⟨nm,bs,mro,ns,qn,hd,sn,sub,ab,col,del⟩:=cd;have e3:del=false:=by simpa using q3
    have em:mro=.ref C'::bm:=hm;subst e3 em
    have es:sl=#[k0,k1,k2,k3,some (.builtin "ValueError.__new__"),k5]:=by
     obtain⟨l⟩:=sl
     have:l=[k0,k1,k2,k3,some (.builtin "ValueError.__new__"),k5]:=hs
     rw[this]
    subst es;exact⟨bm,ns,nm,qn,bs,hd,sn,sub,ab,col,dd,k0,k1,k2,k3,k5,_,X _ _ hl,.of_isNs (isNs_of_in X q5),nsMap_none_of_in X q5 (by simpa using q6),tail_of_in X q4⟩
   ·cases q
  ·cases q
theorem dA.ex {P:Program}{w:World}{H:Hp}{h:Heap}{a:Addr}{o:HO}(x:dA P w H h a o):∃ ob,h.get? a=some ob:=by
 cases o with
 | lst xs=>obtain⟨_,_,_,_,e⟩:=x; exact⟨_,e⟩
 | tup xs=>obtain⟨_,_,_,ob,e,_⟩:=x; exact⟨_,e⟩
 | dK kvs=>obtain⟨_,_,_,_,o,_,_,e,_⟩:=x; exact⟨_,e⟩
 | dT kvs=>obtain⟨_,_,_,_,o,_,_,e,_⟩:=x; exact⟨_,e⟩
 | set S n=>obtain⟨o,_,_,_,e,_⟩:=x; exact⟨_,e⟩
 | ins C dx fs=>obtain⟨_,_,_,e,_⟩:=x; exact⟨_,e⟩
 | own y=>exact x
 | xd fs=>obtain⟨_,⟨_,_,_,e,_⟩,_⟩:=x; exact⟨_,e⟩
 | rng lo hi=>obtain⟨_,_,_,e⟩:=x; exact⟨_,e⟩
 | frz ob u=>obtain⟨e,_⟩:=x; exact⟨_,e⟩
 | tbl ps=>exact⟨_,(show h.get? a=some _ from x)⟩
 | met f y=>exact⟨_,(show h.get? a=some _ from x)⟩
 | ext φ=>obtain⟨_,e,_⟩:=x; exact e
section
variable {X:Cx}{E:XK}
theorem Cx.Body.raised (D:X.Body E){pins:xPn}{σ:St}{H:Hp}{s:Shared}{h':Heap}{e:Addr}{cls:Value}{us:List Value}(I:Inv X pins σ H s)(hx:Heap.MadeExcOf s.heap h' e cls us)(q:E cls none H) :
  X.xe (.ref e) { s with heap:=h' }:=by
 rw[D.xe];have hfr:X.A.frames=some (X.env::X.outer):=by rw[I.ok.frames,D.stk]
 have hin:∀ env∈X.stack,∀ a,env.frame=some a->a∈frs X.stack:=λenv he a ha=>xDa.mpr ⟨env,he,ha⟩
 have hl:s.heap.FunFrames (hideAll s.heap (frs X.stack)) (X.env::X.outer):=by
  have:=funFrames_hide I.stack hin
  rw[D.stk] at this ⊢;exact this
 refine wpAny_leaves_madeW hfr D.frm (λb o q=>xGo _ q) hl hx λh'' t f1 f2 f3 f4=>?_;have neL:∀ b o,X.s₀.heap.get? b=some o->b≠X.env.locals:=λb o q=>xBd (xAy (xAp q) I.ok.above)
 have nfr:∀ b o,X.s₀.heap.get? b=some o->b∉X.fs->b∉frs X.stack:=λb o q hb z=>by
  rw[D.stkFrs] at z;rcases xAk.mp z with z | z
  ·exact neL b o q z
  ·exact hb z
 have nex:∀ b,b∉X.ex:=λb=>by rw[D.ex]; simp
 have inB:∀ b o,X.s₀.heap.get? b=some o->X.H₀ b=none->b∉X.fs->(hideAll s.heap (frs X.stack)).get? b=some o:=λb o q n hb=>
  xEo _ (I.base.keep b o q n hb (nex b)) (nfr b o q hb)
 have trB:∀ b u,H b=some u->∃ o,(hideAll s.heap (frs X.stack)).get? b=some o:=λb u q=>by
  obtain⟨o,ho⟩:=(I.hok b u q).ex;exact⟨o,xEo _ ho λz=>by rw[I.stkFree b z] at q; cases q⟩
 have allB:∀ b o,X.s₀.heap.get? b=some o->b∉X.fs->∃ o',(hideAll s.heap (frs X.stack)).get? b=some o':=λb o q hb=>by
  obtain⟨o1,q1⟩:=I.base.there b o q (nex b);exact⟨o1,xEo _ q1 (nfr b o q hb)⟩
 refine⟨e,t,cls,us,H,_,rfl,I.os,I.bare,⟨λb o q n hb _=>f1.1 b o (inB b o q n hb),λb o q n hb _=>?_,λb o q n _=>I.base.free b o q n (nex b),λb o q _=>?_,I.base.tups,I.base.frzs,I.base.tbls⟩,
  I.hok.inB (λb o q=>xGo _ q) f1.1 trB,f1,f2,f3,inB,trB,allB,q⟩
 ·obtain⟨sl,e1⟩:=I.base.slot b o q n hb (nex b);obtain⟨_,oo,hoo,hnf⟩:=I.funs.mem hb;obtain⟨sl',e2⟩:=f4 b oo (hx.keeps b oo hoo) hnf;rw[e1] at hoo;cases hoo;exact⟨sl',e2⟩
 ·by_cases hb:b∈X.fs
  ·obtain⟨_,o',ho',_⟩:=f1.2.2.1.mem hb;exact⟨o',ho'⟩
  ·obtain⟨o',ho'⟩:=allB b o q hb;exact⟨o',f1.1 b o' ho'⟩
def aPr (E:XK)(c:Value)(t:TA):TS:=λ_ σ H=>t σ H λvs H1=>vs.length<=sizeLine/\E c none H1
theorem eG {x:Str}{C:Addr}{np cpos pos:Pos}{e₀:Expr}{es:List Expr}{t:TA}(D:X.Body E)(hc:X.calm=true)(hg:Gl X x)(hm:X.mg x=some (.ref C))(hq:nF X.K C)(ha:PA X (e₀::es) t)
  (hs:kX e₀=false:=by rfl)(hpl:(backTo cpos (starEach es X.env)).any (·.1)=false:=by rfl)(hd:(x==("__debug__" : Str))=false:=by decide) :
  PS X (.Raise (some (.Call (.Name x np) (e₀::es) [] cpos)) none pos) (aPr E (.ref C) t):=by
 intro pins s σ H Dn I h;obtain⟨bm,N,nm,qn,bs,hdd,sn,sub,ab,col,dd,k0,k1,k2,k3,k5,mN,hC,hN,hni,T⟩:=hq.at I.mod.kin;have he:starEach (e₀::es) X.env=(false,eval e₀ X.env)::starEach es X.env:=cK hs
 refine wpAny_Raise_call_subT (C:=C) (nm:=nm) (q:=qn) (N:=N) (bs:=bs) (bm:=bm) (hdct:=hdd) (sn:=sn) (sub:=sub) (ab:=ab) (col:=col) (dd:=dd) (k0:=k0) (k1:=k1) (k2:=k2) (k3:=k3) (k5:=k5)
  PySem.F.excBase_ValueError (mN:=mN) (T.hasType PySem.F.excBase_ValueError.hasBase) (I.ok.hd hc) (by rw[he]; exact hpl) hni (fV I hg hm ⟨rfl,?_⟩ hd)
 have ha':=ha cpos pins s σ H _ I h;rw[he] at ha' ⊢;refine xGf (thn ha' λus s1 ⟨vs,H1,I1,r1,hz,q1⟩=>⟨rfl,by rw[<- r1.length]; exact hz,I1.bk _ _ hC,hN.keeps I1.bk,T.keeps I1.bk,λh' e hx=>D.raised I1 hx q1⟩)
end
end L2
namespace L2
open PySem PySem.Spec PySem.Calls PyProof.Rows PySem.W
open PySem.Builtin PySem.Builtin.ObjectAttr PySem.Builtin.Getset_descriptor

structure tT (K:Frag)(C:Addr):Prop where
 exc:nF K C
 cls:findIn K (.ref C) "__class__" = some (some (.builtin "object.__class__"))
 ga:findIn K (.ref C) "__getattribute__" = some (some (.builtin "BaseException.__getattribute__"))
 no:findIn K (.ref C) "__getattr__"=some none
 ob:mroIn K C (.type "object")=some true
 be:mroIn K C (.type "BaseException")=some true
def hJ (e C:Addr)(h:Heap):Prop:=∃ o vs,h.get? e=some o/\o.cls=.ref C/\o.data=.fields vs
section
variable {prog:Program}{w:World}{A:Around}{E:xVP}{s:Shared}{K:Frag}{e C:Addr}
theorem hJ.type {M:Model}{h:Heap}(I:hJ e C h):Looks M h (typeOf (.ref e)) (.ref C):=by
 obtain⟨o,vs,h1,h2,_⟩:=I;exact h2▸(Looks.ld h1).andThen .now
theorem tR {tp:Value}{R:Result->Shared->Prop}(X:K.In s.heap)(I:hJ e C s.heap)(hm:mroIn K C (.type "object")=some true)(h:R (.ok (.ret (.ref C))) s) :
  codeAny (model prog w) A (.call (.builtin "getset_descriptor.__get__") ⟨[.builtin "object.__class__",.ref e,tp],[]⟩) R s:=by
 obtain⟨hh,g,dr,t,os⟩:=s;have L0:=I.type (M:=model prog w);have L1:=looks_mroIn (M:=model prog w) X hm;refine xGa KF.slot_gs.plain KF.entry_gs (KF.slot_gs.check _ _ _ _ _ _ _ _ KF.type_class (KF.args_gs _ _ _) ?_);unfold Builtin.«getset_descriptor.__get__» descrGet;rw[dga_obj];refine xAc (xAl ?_);unfold descrGetter descrCheckInstance descrNameAndClass isInstance;simp only[KF.owner_class]
 repeat lk
 refine⟨Code.quiet_builtin _ (by decide +kernel),xHd KF.entry_class ?_⟩;unfold Builtin.«object.__class__» shownTypeOf
 repeat lk
 exact h
theorem qH {tk:Tok}{Q:Fin->Shared->Prop}(X:K.In s.heap)(I:hJ e C s.heap)(T:tT K C)(hq:Q (.done (.ret (.ref C))) s) :
  wpAny (model prog w) A (Builtin.«object.__getattribute__» ⟨[.ref e,.str "__class__" tk],[]⟩) Q E s:=by
 obtain⟨hh,g,d,t,os⟩:=s;have L0:=I.type (M:=model prog w);have L1:=looks_findIn (M:=model prog w) X T.cls;obtain⟨o,vs,hx,hc,hd⟩:=id I;have hT5:(⟨hh,g,d,t,os⟩:Shared).TypeIs (.builtin "object.__class__") "getset_descriptor" := F.typeOf_object_class;have f5:=F.typeOf_object_class;have f6:=F.slot_gs_get.lookup;have f7:=F.slot_gs_set.lookup
 repeat (any_goals (first | assumption | (with_reducible refine wpAny_loadPart_at hx ?_; rw[hc]) | with_reducible refine L1.at ?_ | wp_step))
 refine tR X I T.ob ?_
 repeat (any_goals (first | assumption | wp_step))
theorem wN {M:Model}{nameV:Value}{Q:Unit->Shared->Prop}(X:K.In s.heap)(I:hJ e C s.heap)(T:tT K C)(hq:Q () s) :
  wpAny M A (checkBuiltinCall "BaseException.__getattribute__" ⟨[.ref e,nameV],[]⟩) Q E s:=by
 obtain⟨hh,g,d,t,os⟩:=s;have hk:builtinKind "BaseException.__getattribute__"=some .slot:=by decide +kernel
 have hsplit:splitId "BaseException.__getattribute__" = some ("BaseException","__getattribute__"):=by decide +kernel
 have L0:=I.type (M:=M);have L1:=looks_mroIn (M:=M) X T.be;have ha:=F.args_bexc_ga (.ref e) nameV;simp only[checkBuiltinCall,hk,hsplit];refine xAc ?_;unfold isInstance;refine xAc (L0.at (L1.at ?_))
 repeat (first | assumption | wp_step)
theorem sS {tk:Tok}{R:Result->Shared->Prop}(X:K.In s.heap)(I:hJ e C s.heap)(T:tT K C)(hq:R (.ok (.ret (.ref C))) s) :
  codeAny (model prog w) A (.call (.builtin "BaseException.__getattribute__") ⟨[.ref e,.str "__class__" tk],[]⟩) R s:=
 xGa PySem.F.attr_ValueError.ga.plain F.entry_bexc_ga (wN X I T (qH X I T hq))
theorem sU {Q:xOP}(X:K.In s.heap)(I:hJ e C s.heap)(T:tT K C)(hq:Q (some (.ref C)) { s with toks:=s.toks+1 }) :
  wpAny (model prog w) A (getAttr? (.ref e) "__class__") Q E s:=by
 obtain⟨hh,g,d,t,os⟩:=s;have L0:=I.type (M:=model prog w);have L1:=looks_findIn (M:=model prog w) X T.ga;have L2:=looks_findIn (M:=model prog w) X T.no;have f3:=PySem.F.attr_ValueError.ga.bind (.ref e);have hx2:(Value.builtin "BaseException.__getattribute__" == Value.builtin "object.__getattribute__")=false:=by decide +kernel
 have hx1:(onTheHeap (Value.ref C)&&Value.builtin "BaseException.__getattribute__" == Value.builtin "object.__getattribute__")=false:=by rw[hx2]; rfl
 unfold getAttr? getAttrBy? getAttrBy;refine xAc (wpAny_mkText (xAc (xGn (xEl (xAc (L0.at (xAc (L1.at ?_))))))));dsimp only;rw[xAw (by rw[hx1]; exact xAr)];unfold getAttrByItsOwn hookBefore;rw[show onTheHeap (Value.ref C)=true from rfl,xAz rfl]
 refine xAc (L2.at ?_);unfold callGetattribute
 repeat (any_goals (first | assumption | wp_step))
 refine sS (s:=⟨hh,g,d,t+1,os⟩) X I T ?_
 repeat (any_goals (first | assumption | wp_step))
theorem aKm (T:tT K C):KitX K (.ref e) (.ref C) (hJ e C) where
 ty:=λ_ _ _ I=>I.type
 it:=λ_ _ X _=>by
  obtain⟨bm,N,nm,qn,bs,hd,sn,sub,ab,col,dd,k0,k1,k2,k3,k5,mN,hC,_⟩:=T.exc.at X;intro A' Q' E' s' k q;unfold isType loadHead;exact xAc (wpAny_loadPart (k _ _ hC) (xAl q))
 ne:=λh tp dd its n sl X htp=>by
  obtain⟨bm,N,nm,qn,bs,hd,sn,sub,ab,col,dd',k0,k1,k2,k3,k5,mN,hC,_⟩:=T.exc.at X;refine xCp.mpr λq=>?_;have ec:C=tp:=Value.ref.inj (xDy.mp q);subst ec;have z:=congrArg Obj.data (xBj (hC.symm.trans htp));unfold excClassObj at z;cases z
 ca:=λX I k=>sU X I T k
end
def aPk (H:Hp)(e C:Addr):Prop:=H e=some (.ext (hJ e C))
inductive aXb (K:xAb)(xs:List V)(H:Hp)(Q:VK):Prop
 | mk (e:_)(C:_)(c:_)(cv:_)(b:_)(h0_:xs=[.ref e,c])(h1_:(∀ u,cC c u->u=cv))(h2_:aPk H e C)(h3_:tT K C)(h4_:kitOne K (.ref C) cv=some b)(h5_:Q (.bl b) H)
theorem lV {X:Cx}:CallR X (.builtin "isinstance") (aXb X.K):=by
 intro pins s σ H xs us Q I r h;obtain⟨e,C,c,cv,b,rfl,hc,hx,T,hb,q⟩:=h;obtain⟨u,w',rfl,rx,rc⟩:=aGo r;cases rx;have ec:=hc w' rc;subst ec;obtain⟨ha,_,_⟩:=(show dA X.prog X.w H s.heap e (.ext (hJ e C)) from I.hok e _ hx)
 exact kia_one (aKm T) I.kIn ha hb (λz=>nomatch z) λtk=>⟨.bl b,H,I.tok tk,rfl,q⟩
end L2
namespace L2
open PySem PySem.Spec PySem.Calls PyProof.Rows PySem.W

structure Cx.Frame (X:Cx):Prop where
 stk:X.stack=X.env::X.outer
 frm:X.env.frame=some X.env.locals
abbrev Cx.pinned (X:Cx)(pn:xPn)(E:xVP):Cx:={ X with pn:=pn,xe:=E }
abbrev Cx.caught (X:Cx)(e:Addr)(pn:xPn):Cx:={ X with A:=X.A.mark (some (.ref e)),calm:=false,pn:=pn,xe:=λ_ _=>False }
def yB (σ:St):St:=σ.map λ_=>none
theorem aFk {σ:St}{i:Nat}{v:V}(h:(yB σ)[i]?=some (some v)):False:=by
 unfold yB at h;rw[xAj] at h;cases e:σ[i]? with
 | none=>rw[e] at h; cases h
 | some z=>rw[e] at h; cases h
theorem aFj (σ:St):(yB σ).length=σ.length:=by unfold yB; rw[xAa]
section
variable {X:Cx}{pins:xPn}{σ:St}{H:Hp}{s:Shared}
theorem Inv.repin (I:Inv X pins σ H s)(E:xVP):Inv (X.pinned (X.pn++pins) E) [] σ H s:=
 ⟨⟨I.ok.mod,I.ok.kind,I.ok.glob,I.ok.blt,I.ok.above,I.ok.inj,I.ok.has,I.ok.cab,I.ok.hd,I.ok.frames,I.ok.stk,I.ok.exf,I.ok.bs,I.ok.bsz,I.ok.noex,I.ok.exfs,I.ok.funs,I.ok.frf⟩,
  I.os,I.bare,I.base,I.loc,I.cell,I.free,I.freeC,λp hp=>I.pin p (by simpa using hp),I.hok,I.len⟩
theorem Inv.unpin {E:xVP}{pl:xPn}(I:Inv (X.pinned (X.pn++pins) E) pl σ H s):Inv X pins σ H s:=
 ⟨⟨I.ok.mod,I.ok.kind,I.ok.glob,I.ok.blt,I.ok.above,I.ok.inj,I.ok.has,I.ok.cab,I.ok.hd,I.ok.frames,I.ok.stk,I.ok.exf,I.ok.bs,I.ok.bsz,I.ok.noex,I.ok.exfs,I.ok.funs,I.ok.frf⟩,
  I.os,I.bare,I.base,I.loc,I.cell,I.free,I.freeC,λp hp=>I.pin p (xDf _ hp),I.hok,I.len⟩
theorem Inv.mark (I:Inv X pins σ H s)(e:Addr):Inv (X.caught e (X.pn++pins)) [] σ H s:=
 ⟨⟨I.ok.mod,I.ok.kind,I.ok.glob,I.ok.blt,I.ok.above,I.ok.inj,I.ok.has,I.ok.cab,(λz=>nomatch z),I.ok.frames,I.ok.stk,I.ok.exf,I.ok.bs,I.ok.bsz,I.ok.noex,I.ok.exfs,I.ok.funs,I.ok.frf⟩,
  I.os,I.bare,I.base,I.loc,I.cell,I.free,I.freeC,λp hp=>I.pin p (by simpa using hp),I.hok,I.len⟩
theorem Inv.unmark {e:Addr}{pl:xPn}(I:Inv (X.caught e (X.pn++pins)) pl σ H s)(ok:X.Ok):Inv X pins σ H s:=
 ⟨ok,I.os,I.bare,I.base,I.loc,I.cell,I.free,I.freeC,λp hp=>I.pin p (xDf _ hp),I.hok,I.len⟩
theorem Inv.forget {h':Heap}{m':xSO}{t':Nat}(I:Inv X pins σ H s)(ns:h'.Ns X.env.locals m')(sb:Heap.SameBut X.env.locals s.heap h'):Inv X pins (yB σ) H { s with heap:=h',toks:=t' }:=by
 have ne:∀ b u,H b=some u->b≠X.env.locals:=λb u q z=>by rw[z,I.free] at q; cases q
 have neL:∀ b o,X.s₀.heap.get? b=some o->b≠X.env.locals:=λb o e=>xBd (xAy (xAp e) I.ok.above)
 refine⟨I.ok,I.os,I.bare,⟨λb o q n hb hx=>(sb.2 b (neL b o q)).trans (I.base.keep b o q n hb hx),λb o q n hb hx=>?_,I.base.free,λb o q hx=>?_,I.base.tups,I.base.frzs,I.base.tbls⟩,
  ⟨m',ns,λi x v e1 e2=>(aFk e2).elim⟩,λx c e=>?_,I.free,I.freeC,λp hp=>?_,λb u q=>?_,(aFj σ).trans I.len⟩
 ·obtain⟨sl,e1⟩:=I.base.slot b o q n hb hx;exact⟨sl,(sb.2 b (neL b o q)).trans e1⟩
 ·obtain⟨o',e1⟩:=I.base.there b o q hx;exact⟨o',(sb.2 b (neL b o q)).trans e1⟩
 ·obtain⟨v,z⟩:=I.cell x c e;exact⟨v,z.sameBut sb (I.cne x c e)⟩
 ·obtain⟨e1,n,ne',nf,d⟩:=I.pin p hp;exact⟨(sb.2 p.1 ne').trans e1,n,ne',nf,d⟩
 ·refine (I.hok b u q).stay (λc v hc z=>(sb.2 c ?_).trans z) (λ_ z=>z) λ_ _ z=>z;rcases hc with rfl | hc
  ·exact ne c u q
  ·exact ne c _ hc
end
section
variable {X:Cx}
theorem aKi {pins:xPn}{σ:St}{H H1:Hp}{s s1:Shared}{e C:Addr}{a0:Value}{B h':Heap}(I:Inv X pins σ H s)(ho:s1.os=s.os)(hg:AllBare s1.gens)(u:Un (frs X.stack) [] H H1 s.heap s1.heap)(hk:HOk X.prog X.w H1 s1.heap)
  (f0:B.StaysIn s1.heap)(fl:Heap.FlyingW B X.stack e (.ref C) a0 h')(up:s1.heap.UpToSlots h')(inB:∀ b o,s.heap.get? b=some o->H b=none->b∉frs X.stack->B.get? b=some o)(trB:∀ b v,H1 b=some v->∃ o,B.get? b=some o)
  (allB:∀ b o,s.heap.get? b=some o->b∉frs X.stack->∃ o',B.get? b=some o'):H1 e=none/\Inv X pins σ (upd H1 e (.ext (hJ e C))) { s1 with heap:=h' }:=by
 have he:H1 e=none:=by
  cases q:H1 e with
  | none=>rfl
  | some v=>
   obtain⟨o,z⟩:=trB e v q;rw[fl.2.1] at z;cases z
 obtain⟨oe,vs,hoe,hoc,hod,_⟩:=fl.first
 have efr:e∉frs X.stack:=λz=>by
  obtain⟨_,o,h1,h2⟩:=fl.2.2.1.mem z;rw[hoe] at h1;cases h1;exact h2 vs hod
 have eold:∀ o,s.heap.get? e≠some o:=λo z=>by
  obtain⟨o',z'⟩:=allB e o z efr;rw[fl.2.1] at z';cases z'
 have hok:HOk X.prog X.w H1 h':=hk.inB f0 fl.1 trB;have xat:hJ e C h':=⟨oe,vs,hoe,hoc,hod⟩
 have hok':HOk X.prog X.w (upd H1 e (.ext (hJ e C))) h':=λb v q=>by
  by_cases hb:b=e
  ·subst hb;rw[aD] at q;cases q;exact⟨xat,⟨oe,hoe⟩,λh1 h2 ⟨o,ws,p1,p2,p3⟩ k=>⟨o,ws,k o p1,p2,p3⟩⟩
  ·rw[aH hb] at q;exact (hok b v q).stay (λ_ _ _ z=>z) (λc z=>by rw[aH (aI z he)]; exact z) λc xs z=>by rw[aH (aI z he)]; exact z
 refine⟨he,I.call' (ch:=[]) (s':={ s1 with heap:=h' }) ho ⟨λb o q n hb _=>fl.1 b o (inB b o q n hb),λb o q n hb _=>?_,λb o q n hx=>?_,λb o q hx=>?_,λb xs q=>?_,λb o v q=>?_,λb ps q=>?_⟩ hok' hg λ_ z=>nomatch z⟩
 ·obtain⟨sl,e1⟩:=u.slot b o q n hb (by simp);obtain⟨_,oo,hoo,hnf⟩:=I.stack.mem hb;rw[q] at hoo;cases hoo;obtain⟨sl',e2⟩:=up b _ e1 hnf;exact⟨sl',e2⟩
 ·rw[aH λz=>eold o (by rw[<- z]; exact q)];exact u.free b o q n (by simp)
 ·by_cases hb:b∈frs X.stack
  ·obtain⟨_,o',ho',_⟩:=fl.2.2.1.mem hb;exact⟨o',ho'⟩
  ·obtain⟨o',ho'⟩:=allB b o q hb;exact⟨o',fl.1 b o' ho'⟩
 ·have z:=u.tups b xs q;rw[aH (aI z he)];exact z
 ·have z:=u.frzs b o v q;rw[aH (aI z he)];exact z
 ·obtain⟨more,z⟩:=u.tbls b ps q;exact⟨more,by rw[aH (aI z he)]; exact z⟩
end
structure oN (k:Nat)(A:Around):Prop where
 dp:A.depth+3*k+5<recursionLimit
 un:A.units+16*k+200<cLine
theorem bY.u {k:Nat}{A:Around}(r:bY k A)(e:Addr):oN k (A.mark (some (.ref e))):=⟨r.dp,r.un⟩
theorem oN.deeper {k:Nat}{A:Around}(r:oN (k+1) A)(env:Env):oN k (A.deeper env):=
 ⟨by have:=r.dp; show A.depth+1+3*k+5<_; omega,by have:=r.un; show A.units+3+16*k+200<_; omega⟩
theorem oN.depth {k:Nat}{A:Around}(r:oN k A):A.depth<recursionLimit:=by have:=r.dp; omega
def cxU (P:Program)(w:World)(K:xAb)(mg:xSO)(base:Heap)(N:List Str)(qual:Str)(scope:Scope)(f:Addr)(cd:Value)(A:Around)(outer:List Env)(s:Shared)(H:Hp):Cx:=
 { jJ CX0 P w K mg base N qual scope f cd A outer s H E0 with calm:=false,xe:=λ_ _=>False }
structure aDz (P:Program)(w:World)(K:xAb)(mg:xSO)(base:Heap)(k:Nat)(f:Addr)(fd:FuncData)(ps:List Str)(sp:Sp):Prop where
 len:∀ vs H Q E,sp vs H Q E->vs.length=ps.length
 run:∀ (A:Around) (outer:List Env) (s:Shared) (H:Hp) (args:Args) (us:List Value) (vs:List V) (Q:VK),oN k A->pR P w K mg base A outer s H->BindsTo s fd args (ps.zip us)->bU vs us->sp vs H Q E0 ->
  codeAny (model P w) A (.call (.ref f) args) (CR CX0 outer P w H s Q E0) s
section
variable {P:Program}{w:World}{K:xAb}{mg:xSO}{base:Heap}
theorem aBj {N ps:List Str}{qual:Str}{scope:Scope}{f:Addr}{cd:Value}{A:Around}{outer:List Env}{s s1:Shared}{H:Hp}{us:List Value}{vs:List V}
  (S:aO N ps scope)(e0:pR P w K mg base A outer s H)(hl:vs.length=ps.length)(r:bU vs us)
  (x:InCallC s s.heap.objs.size (bindL (envOfC qual scope s.heap.objs.size f cd).kindOf (ps.zip us) λ_=>none) (cellsFrom (s.heap.objs.size+1) scope.names []) (bindC (envOfC qual scope s.heap.objs.size f cd).kindOf (ps.zip us) λ_=>none) s1) :
  Inv (cxU P w K mg base N qual scope f cd A outer s H) [] (gM N vs) H s1:=by
 have J:=pM (CX:=CX0) (E:=E0) (A:={ A with handled:=none }) (f:=f) (cd:=cd) S rfl ⟨e0.frames,e0.mod,e0.bs,e0.bsz,e0.funs,e0.frf,e0.hok,e0.bare⟩ hl r x
 exact⟨⟨J.ok.mod,J.ok.kind,J.ok.glob,J.ok.blt,J.ok.above,J.ok.inj,J.ok.has,J.ok.cab,(λz=>nomatch z),Around.frames_deeper e0.frames,J.ok.stk,J.ok.exf,J.ok.bs,J.ok.bsz,J.ok.noex,J.ok.exfs,J.ok.funs,J.ok.frf⟩,
  J.os,J.bare,J.base,J.loc,J.cell,J.free,J.freeC,J.pin,J.hok,J.len⟩
theorem Fun.okU {x qual:Str}{st:Stmt}{f:Addr}{fd:FuncData}{N ps:List Str}{k:Nat}{sp:Sp}(F:Fun K x qual st f fd)(S:aO N ps (aA st))(len:∀ vs H Q E,sp vs H Q E->vs.length=ps.length)
  (hbody:∀ (cdv:Value) (A:Around) (outer:List Env) (s:Shared) (H:Hp) (vs:List V) (Q:VK),oN k (A.deeper (envOfC qual (aA st) s.heap.objs.size f cdv))->sp vs H Q E0 ->
   ∃ t,PSs (cxU P w K mg base N qual (aA st) f cdv A outer s H) (aF st) t/\t { nx:=λ_ H'=>Q .non H',rt:=Q } (gM N vs) H):aDz P w K mg base (k+1) f fd ps sp:=by
 obtain⟨oc,od,kV,doc,pm,an,cdv,ct,osl,rfl,lk,hcd⟩:=F.ex;refine⟨len,λA outer s H args us vs Q hr e0 hb r hsp=>?_⟩;have hl:=len _ _ _ _ hsp;have KX:K.In s.heap:=e0.mod.kin.keeps λb o e=>(e0.bs b o e).1;have lim:s.heap.NoLimit:=e0.mod.nolimit.keeps λb o e=>(e0.bs b o e).1
 have hkind:∀ y∈ps.zip us,(aA st).names.lookup y.1=some .local\/((aA st).names.lookup y.1=some .cell/\((cellsFrom (s.heap.objs.size+1) (aA st).names []).lookup y.1).isSome=true):=λ⟨n,v⟩ hy=>by
  rcases S.par n (xEq hy).1 with q | q
  ·exact .inl q
  ·exact .inr ⟨q,xFm _ _ _ (.inl q)⟩
 refine xFp hr.depth (KX _ _ lk) rfl S.co S.gen rfl (codeRec_of KX hcd) (hb _ _ _ _ ?_);refine xEv S.kind hkind λenv he s1 x=>?_;subst he;refine⟨lim.keeps x.toInCall.keep,xIl ?_⟩;obtain⟨t,ht,hq⟩:=hbody cdv A outer s H vs Q (hr.deeper _) hsp;have I:Inv (cxU P w K mg base N qual (aA st) f cdv A outer s H) [] (gM N vs) H s1:=aBj S e0 hl r x;refine xCj (ht [] s1 (gM N vs) H _ I hq) (λfl s' hs=>?_) λe s' hs=>hs.elim
 have fin:∀ {σ':St}{H':Hp}{v:V}{u:Value},Inv (cxU P w K mg base N qual (aA st) f cdv A outer s H) [] σ' H' s'->cC v u->Q v H'->CE outer P w H s Q u s':=
  λ{σ' H' v u} J rv q=>⟨v,H',J.os,J.bare,J.base,J.hok,rv,q⟩
 cases fl with
 | ret u=>obtain⟨v,σ',H',J,rv,q⟩:=hs; exact fin J rv q
 | next=>obtain⟨σ',H',J,q⟩:=hs; exact fin (v:=V.non) (u:=Value.none) J rfl q
 | brk=>obtain⟨_,_,_,q⟩:=hs; exact False.elim q
 | cont=>obtain⟨_,_,_,q⟩:=hs; exact False.elim q
end
section
variable {X:Cx}{k:Nat}{f:Addr}{fd:FuncData}{ps:List Str}{sp:Sp}{x:Str}{e:Expr}{es:List Expr}{t:TA}{p pos:Pos}
theorem sG (F:aDz X.prog X.w X.K X.mg X.base k f fd ps sp)(hr:oN k X.A)(hg:Gl X x)(hm:X.mg x=some (.ref f))(hk:keepIn X.K (.ref f)=true)(hb:aS X.K fd ps [])
  (ha:PA X (e::es) t)(hs:kX e=false:=by rfl)(hdb:(x==("__debug__" : Str))=false:=by decide)(hpl:(backTo pos (starEach es X.env)).any (·.1)=false:=by rfl) :
  PE X (.Call (.Name x p) (e::es) [] pos) (wZ sp [] E0 t):=by
 intro pins s σ H Q I h;refine xBz (fV I hg hm ?_ hdb);refine xCh (h₀:=X.base) I.ok.mod.kin hk (thn (ha pos pins s σ H _ I h) λus s1 ⟨vs,H1,I1,r,q⟩=>⟨I1.kIn,?_⟩) (cK hs) hpl;have q':sp vs H1 Q E0:=by have z:sp (vs++[]) H1 Q E0:=q; rw[xBk] at z; exact z
 have hl:us.length=ps.length:=by rw[<- r.length]; exact F.len _ _ _ _ q'
 have hb':=hb s1 us I1.kIn (by rw[xBk]; exact hl);rw[xBk] at hb';refine xFc (xDx (F.run X.A X.stack s1 H1 ⟨us,[]⟩ us vs Q hr I1.env0 hb' r q') λrr s' hq=>?_);cases rr with
 | error e=>exact False.elim hq
 | ok fl=>
  cases fl with
  | ret u=>exact I1.after hq
  | next=>exact False.elim hq
  | brk=>exact False.elim hq
  | cont=>exact False.elim hq
end
def oP (mg:xSO)(base:Heap):Prop:=∃ bm ob,mg "__builtins__" = some (.ref bm)/\bm≠builtinsNs/\base.get? bm=some ob/\ob.cls=.type "module" /\ ob.dict=some builtinsNs/\ob.data=.plain
def gB (c:Addr)(q:Str)(h:Heap):Prop:=∃ o vs t,h.get? c=some o/\o.data=.fields vs/\vs[1]?=some (.str q t)
section
variable {X:Cx}{pins:xPn}{σ:St}{H:Hp}{s:Shared}
theorem Inv.lamTab {P c':Addr}{q:Str}{ps more:Array Value}{h':Heap}{t':Nat}(I:Inv X pins σ H s)(hP:H P=some (.tbl ps))(k:Heap.ExtBut P s.heap h')(hn:h'.get? P=some (tabObj (ps++more)))
  (hge:s.heap.objs.size<=c')(hcd:gB c' q h'):Inv X pins σ (upd (upd H P (.tbl (ps++more))) c' (.ext (gB c' q))) { s with heap:=h',toks:=t' }:=by
 have neP:∀ b,H b=none->b≠P:=λb n z=>by rw[z,hP] at n; cases n
 have nec:∀ b o,s.heap.get? b=some o->b≠c':=λb o e=>xBd (xAy (xAp e) hge);have hc0:H c'=none:=I.hok.fresh hge;have cP:c'≠P:=neP c' hc0;have H2:∀ b u,H b=some u->b≠P->upd (upd H P (.tbl (ps++more))) c' (.ext (gB c' q)) b=some u:=λb u e hb=>by rw[aH (aI e hc0),aH hb]; exact e
 refine I.step (g':=s.gens) (d':=s.drawn) (ch:=[]) (λ_ z=>nomatch z) (λb o _ _ _ e n=>k b o (neP b n) e) (λb o _ _ _ e n=>⟨o.slots,k b o (neP b n) e⟩)
  (λb o _ e n=>by rw[aH (nec b o e),aH (neP b n)]; exact n) (λb o _ e=>?_) (λb xs e=>H2 b _ e λz=>by rw[z,hP] at e; cases e) (λb o u e=>H2 b _ e λz=>by rw[z,hP] at e; cases e)
  (λb ps' e=>?_) (λm hm=>hm.extBut k (neP _ I.free)) (λb u e=>?_) I.bare
 ·by_cases hb:b=P
  ·subst hb; exact⟨_,hn⟩
  ·exact⟨o,k b o hb e⟩
 ·by_cases hb:b=P
  ·subst hb;rw[hP] at e;cases e;exact⟨more,by rw[aH (Ne.symm cP),aD]⟩
  ·exact⟨#[],by rw[H2 b _ e hb]; simp⟩
 ·by_cases hb:b=c'
  ·subst hb;rw[aD] at e;cases e;obtain⟨o,vs,t,e1,e2,e3⟩:=id hcd;exact⟨hcd,⟨o,e1⟩,λh1 h2 ⟨o,vs,t,p1,p2,p3⟩ kk=>⟨o,vs,t,kk o p1,p2,p3⟩⟩
  ·rw[aH hb] at e
   by_cases hbP:b=P
   ·subst hbP;rw[aD] at e;cases e;exact hn
   ·rw[aH hbP] at e;refine (I.hok b u e).stay (λd v hd z=>k d v ?_ z) (λd z=>H2 d _ z λy=>by rw[y,hP] at z; cases z) λd xs z=>H2 d _ z λy=>by rw[y,hP] at z; cases z
    rcases hd with rfl | hd
    ·exact hbP
    ·intro y;rw[y,hP] at hd;cases hd
theorem aKk {params:Arguments}{body:Expr}{scope:Scope}{pos:Pos}{c P:Addr}{ps:Array Value}{Q:xVP}{E:xVP}(I:Inv X pins σ H s)(hcode:X.env.code=.ref c)(hc:codeHdIn X.K c P=true)(bm:oP X.mg X.base)
  (hP:H P=some (.tbl ps))(ht:TriplesOk ps.toList)(hnf:codeAmong pos ps.toList=none)(hdef:defaultsOf params X.env=([],[]))(hfr:∀ n∈eA scope,X.env.kindOf n=some .cell\/X.env.kindOf n=some .free)
  (k:∀ (f c':Addr) (pm ctv:Value) (s1:Shared),Inv X pins σ (upd (upd H P (.tbl (ps++#[rawInt pos.line,rawInt pos.col,.ref c']))) c' (.ext (gB c' (X.env.qual++"<lambda>")))) s1->H c'=none->c'≠P->c'<f->s.heap.objs.size<=c' ->
   (∀ b o,b≠P->s.heap.get? b=some o->s1.heap.get? b=some o) ->
   s1.heap.get? f=some (kla_obj "<lambda>" (X.env.qual++"<lambda>") params body scope (gA scope X.env) pm c' ctv)->Q (.ref f) s1) :
  wpAny (model X.prog X.w) X.A (eval (.Lambda params body scope pos) X.env) Q E s:=by
 have hcl:closureFor scope X.env=pure (gA scope X.env):=gW λn hn=>I.ok.has n (hfr n hn);obtain⟨b,ob,b1,b2,b3,b4,b5,b6⟩:=bm;have hg:s.heap.Ns mainGlobals X.mg:=I.mod.glob.keeps I.bk;have bP:∀ d o,X.base.get? d=some o->d≠P:=λd o e z=>by have:=(I.bs d o e).2; rw[z,hP] at this; cases this
 have hgP:mainGlobals≠P:=by
  obtain⟨o,_,_,e,_⟩:=I.mod.glob;exact bP _ o e
 have hbG:b≠mainGlobals:=λz=>by
  obtain⟨o,es,ep,e,hd,_⟩:=I.mod.glob;rw[z,e] at b3;cases b3;rw[hd] at b6;cases b6
 have hob:s.heap.get? P=some (tabObj ps):=I.hok P _ hP;refine kla_eval hdef (kla_makeFunction (mg:=X.mg) hcl I.ok.glob hg hcode (codeHd_of_K I.kIn hc) hob ht hnf hgP ⟨b,ob,b1,b2,hbG,bP _ _ b3,I.bk _ _ b3,b4,b5,b6⟩ λc' ctv h' tk hx hge hlt hrec htb=>?_);obtain⟨c2,o2,vs2,t2,e2,r1,r2,r3⟩:=hrec;cases e2;have hc0:H c'=none:=I.hok.fresh hge
 refine k h'.objs.size c' _ ctv _ (I.lamTab (t':=tk) hP (λd o hd e=>xAf _ (hx d o hd e)) (xAf _ htb) hge ⟨o2,vs2,t2,xAf _ r1,r2,r3⟩) hc0 (λz=>by rw[z,hP] at hc0; cases hc0) hlt hge
  (λd o hd e=>xAf _ (hx d o hd e)) (xAq _ rfl)
end
structure zD (h:Heap)(H:Hp)(fr:List Addr)(f c':Addr)(q:Str)(params:Arguments)(body:Expr)(scope:Scope)(cl:List (Str×Addr))(NL:List Str)(σL:St):Prop where
 fn:∃ pm ctv,h.get? f=some (kla_obj "<lambda>" q params body scope cl pm c' ctv)
 fH:H f=none
 ff:f∉fr
 code:H c'=some (.ext (gB c' q))
 inj:∀ x y a,cl.lookup x=some a->cl.lookup y=some a->x=y
 cell:∀ x a,cl.lookup x=some a->(∃ v,h.IsCell a v)/\H a=none/\a∉fr
 val:∀ (i:Nat) x v,NL[i]?=some x->σL[i]?=some (some v)->∃ a u,cl.lookup x=some a/\cC v u/\h.IsCell a (some u)
 len:σL.length=NL.length
section
variable {X:Cx}{q:Str}{scope:Scope}{f c':Addr}{cl:List (Str×Addr)}{H:Hp}{s:Shared}{NL:List Str}{E:XK}
end
section
variable {P:Program}{w:World}{K:Frag}{mg:xSO}{base:Heap}
theorem aRj {CX:CXT}{x qual:Str}{st:Stmt}{f:Addr}{fd:FuncData}{N ps:List Str}{k:Nat}(F:Fun K x qual st f fd)(S:aO N ps (aA st)){A:Around}{outer:List Env}{s:Shared}{H:Hp}{args:Args}{us:List Value}{vs:List V}{Q:VK}{E:XK}
  (hr:bY (k+1) A)(e0:pR P w K mg base A outer s H)(hb:BindsTo s fd args (ps.zip us))(hl:vs.length=ps.length)(r:bU vs us)
  (hbody:∀ cdv,bY k (A.deeper (envOfC qual (aA st) s.heap.objs.size f cdv))->∃ t,PSs (jJ CX P w K mg base N qual (aA st) f cdv A outer s H E) (aF st) t/\t { nx:=λ_ H'=>Q .non H',rt:=Q } (gM N vs) H) :
  codeAny (model P w) A (.call (.ref f) args) (CR CX outer P w H s Q E) s:=by
 obtain⟨oc,od,kV,doc,pm,an,cdv,ct,osl,rfl,lk,hcd⟩:=F.ex;have KX:K.In s.heap:=e0.mod.kin.keeps λb o e=>(e0.bs b o e).1;have lim:s.heap.NoLimit:=e0.mod.nolimit.keeps λb o e=>(e0.bs b o e).1
 have hkind:∀ y∈ps.zip us,(aA st).names.lookup y.1=some .local\/((aA st).names.lookup y.1=some .cell/\((cellsFrom (s.heap.objs.size+1) (aA st).names []).lookup y.1).isSome=true):=λ⟨n,v⟩ hy=>by
  rcases S.par n (xEq hy).1 with q | q
  ·exact .inl q
  ·exact .inr ⟨q,cellsFrom_some _ _ _ (.inl q)⟩
 refine xFp hr.depth (KX _ _ lk) rfl S.co S.gen rfl (codeRec_of KX hcd) (hb _ _ _ _ ?_);refine xEv S.kind hkind λenv he s1 x=>?_;subst he;refine⟨lim.keeps x.toInCall.keep,xIl ?_⟩;obtain⟨t,ht,hq⟩:=hbody cdv (hr.deeper _);have I:Inv (jJ CX P w K mg base N qual (aA st) f cdv A outer s H E) [] (gM N vs) H s1:=pM S hr.hd e0 hl r x;refine xCj (ht [] s1 (gM N vs) H _ I hq) (λfl s' hs=>?_) λe s' hs=>hs
 have fin:∀ {σ':St}{H':Hp}{v:V}{u:Value},Inv (jJ CX P w K mg base N qual (aA st) f cdv A outer s H E) [] σ' H' s'->cC v u->Q v H'->CE outer P w H s Q u s':=
  λ{σ' H' v u} J rv q=>⟨v,H',J.os,J.bare,J.base,J.hok,rv,q⟩
 cases fl with
 | ret u=>obtain⟨v,σ',H',J,rv,q⟩:=hs; exact fin J rv q
 | next=>obtain⟨σ',H',J,q⟩:=hs; exact fin (v:=V.non) (u:=Value.none) J rfl q
 | brk=>obtain⟨_,_,_,q⟩:=hs; exact False.elim q
 | cont=>obtain⟨_,_,_,q⟩:=hs; exact False.elim q
end
section
variable {X:Cx}
end
theorem aFp {P:Program}{w:World}{K:Frag}{mg mb:xSO}{CX:CXT}{k:Nat}{fa a:Addr}{fd:FuncData}{x:Str}{sp:Sp}{s₁:Shared}{vs:List Value}{ns:List Int}{tabs:List (Addr×Addr)}
  (KX:K.In s₁.heap)(hns:s₁.heap.Ns mainGlobals mg)(hb:s₁.heap.Ns builtinsNs mb)(hbb:∀ x:Str,x≠"__name__" -> mb x=bootBuiltins x)(hlim:s₁.heap.NoLimit)(hg:s₁.gens=#[])
  (htab:∀ q∈tabs,codeHdIn K q.1 q.2=true/\K.lookup q.2=none/\s₁.heap.get? q.2=some (tabObj #[]))
  (hbm:∃ bm ob,mg "__builtins__" = some (.ref bm)/\bm≠builtinsNs/\s₁.heap.get? bm=some ob/\ob.cls=.type "module" /\ ob.dict=some builtinsNs/\ob.data=.plain)
  (ha:s₁.heap.get? a=some { cls:=.type "list",data:=.seq vs.toArray })(hi:IntsAre vs ns)(hl:ns.length<=sizeLine)(hr:bY k callerA)
  (F:∀ base:Heap,K.In base->base.Ns mainGlobals mg->oP mg base->aP P w K mg base CX k fa fd [x] sp)(hbind:∀ (s:Shared) (u:Value),BindsTo s fd ⟨[u],[]⟩ [(x,u)])
  (hsp:∀ H:Hp,(∀ q∈tabs,H q.2=some (.tbl #[]))->SqL K H a (ns.map V.int)->sp [.ref a] H (λv _=>v=.bl true) λ_ _ _=>False)
  (hCX:∀ H e s',CX [] H s₁ (λ_ _ _=>False) e s'->False) :
  codeAny (model P w) callerA (.call (.ref fa) ⟨[.ref a],[]⟩) (λr s'=>r=.ok (.ret (.bool true))/\OldK s₁.heap s'.heap/\s'.os=s₁.os/\AllBare s'.gens) s₁:=by
 have rv:=tW hi;have lenV:=hi.length
 have core:∀ H:Hp,SqL K H a (ns.map V.int)->HOk P w H s₁.heap->(∀ q∈tabs,H q.2=some (.tbl #[]))->(∀ b u,H b=some u->(∃ q∈tabs,b=q.2)\/(b=a/\K.lookup a=none/\∃ o ys,u=.frz o (.lst ys))) ->
   codeAny (model P w) callerA (.call (.ref fa) ⟨[.ref a],[]⟩) (λr s'=>r=.ok (.ret (.bool true))/\OldK s₁.heap s'.heap/\s'.os=s₁.os/\AllBare s'.gens) s₁:=by
  intro H hS hok hT hA
  -- what is tracked is the script or a table
  have noA:∀ {b:Addr}{o:Obj},s₁.heap.get? b=some o->(∀ ws,o.data≠.fields ws)->(∀ ws n,o.data≠.seq ws n)->H b=none:=λ{b o} e d1 d2=>by
   cases z:H b with
   | none=>rfl
   | some u=>
    rcases hA b u z with⟨q,hq,rfl⟩ | ⟨rfl,_⟩
    ·have:=(htab q hq).2.2
     rw[e] at this;cases this;exact xAu rfl (d1 #[])
    ·rw[ha] at e;cases e;exact xAu rfl (d2 vs.toArray 0)
  have nsK:∀ {b:Addr}{m:xSO},s₁.heap.Ns b m->(wK s₁.heap H).Ns b m:=λ{b m} ⟨o,es,ep,e,d,r⟩=>⟨o,es,ep,sQ e (noA e (λws z=>by rw[d] at z; cases z) λws n z=>by rw[d] at z; cases z),d,r⟩
  have hKb:K.In (wK s₁.heap H):=λb o e=>sQ (KX b o e) (by
   cases z:H b with
   | none=>rfl
   | some u=>
    rcases hA b u z with⟨q,hq,rfl⟩ | ⟨rfl,hk,_⟩
    ·rw[(htab q hq).2.1] at e; cases e
    ·rw[hk] at e; cases e)
  have hM:Mod K mg (wK s₁.heap H):=⟨hKb,nsK hns,⟨mb,nsK hb,hbb⟩,let ⟨mc,h1,h2⟩:=hlim; ⟨mc,nsK h1,h2⟩⟩
  have hB:oP mg (wK s₁.heap H):=by
   obtain⟨bm,ob,b1,b2,b3,b4,b5,b6⟩:=hbm;exact⟨bm,ob,b1,b2,sQ b3 (noA b3 (λws z=>by rw[b6] at z; cases z) λws n z=>by rw[b6] at z; cases z),b4,b5,b6⟩
  have e0:pR P w K mg (wK s₁.heap H) callerA [] s₁ H:=⟨rfl,hM,λb o e=>aMz e,Nat.le_of_eq (aFt _ _),trivial,λb hb=>xAu (show b∈([]:List Addr) from hb) (by simp),hok,.of_eq hg⟩
  refine xDx ((F _ hKb (nsK hns) hB).run callerA [] s₁ H ⟨[.ref a],[]⟩ [.ref a] [.ref a] _ _ hr e0 (hbind s₁ (.ref a)) (.cons rfl .nil) (hsp H hT hS)) λr s' h=>?_;cases r with
  | error e=>exact (hCX H e s' h).elim
  | ok fl=>
   cases fl with
   | next=>exact False.elim h
   | brk=>exact False.elim h
   | cont=>exact False.elim h
   | ret u=>
    obtain⟨v,H',os,bare,un,hok',r',q⟩:=h;have q':v=.bl true:=q;subst q';obtain rfl:u=Value.bool true:=r';refine⟨rfl,⟨λb o e=>?_,λb o e=>un.there b o e (by simp)⟩,os,bare⟩;cases z:H b with
    | none=>exact .inl (un.keep b o e z (by intro y; exact xAu (show b∈([]:List Addr) from y) (by simp)) (by simp))
    | some u=>
     rcases hA b u z with⟨q,hq,rfl⟩ | ⟨_,_,ob,ys,rfl⟩
     ·obtain⟨hc,_,hP⟩:=htab q hq;obtain⟨more,z2⟩:=un.tbls q.2 #[] (hT q hq);have e2:s'.heap.get? q.2=some { cls:=.none,data:=.fields (#[]++more) }:=hok' q.2 _ z2;rw[hP] at e;cases e;exact .inr (.inl ⟨((codeHd_of_K KX hc).tab hP).isCodeTable,rfl,#[],more,rfl,e2⟩)
     ·have z2:=un.frzs b ob _ z;obtain⟨e1,_⟩:=hok b _ z;obtain⟨e2,_⟩:=hok' b _ z2;rw[e] at e1;cases e1;exact .inl e2
 have aT:∀ q∈tabs,q.2≠a:=λq hq z=>by
  have:=(htab q hq).2.2
  rw[z,ha] at this;cases this
 cases hk:K.lookup a with
 | some o=>
  have e:=KX a o hk;rw[ha] at e;cases e;refine core (λb=>if b∈tabs.map (·.2) then some (.tbl #[]) else none) (.inr ⟨_,vs.toArray,_,hk,rfl,rfl,rfl,by rw[xAv,lenV]; exact hl,by simpa using rv⟩) (λb u z=>?_) (λq hq=>xAz (List.mem_map_of_mem hq)) λb u z=>?_
  ·by_cases hb:b∈tabs.map (·.2)
   ·have z':=(xAz hb).symm.trans z;cases z';obtain⟨q,hq,rfl⟩:=xAo.mp hb;exact (htab q hq).2.2
   ·have z':=(xAw hb).symm.trans z;cases z'
  ·by_cases hb:b∈tabs.map (·.2)
   ·obtain⟨q,hq,rfl⟩:=xAo.mp hb;exact .inl ⟨q,hq,rfl⟩
   ·have z':=(xAw hb).symm.trans z;cases z'
 | none=>
  refine core (λb=>if b∈tabs.map (·.2) then some (.tbl #[]) else if b=a then some (.frz { cls:=.type "list",data:=.seq vs.toArray } (.lst (ns.map V.int))) else none) ?_ (λb u z=>?_) (λq hq=>xAz (List.mem_map_of_mem hq)) λb u z=>?_
  ·refine .inl (.inr ⟨{ cls:=.type "list",data:=.seq vs.toArray },?_⟩)
   have na:a∉tabs.map (·.2):=λz=>by
    obtain⟨q,hq,e⟩:=xAo.mp z;exact aT q hq e
   exact (xAw na).trans (xAz rfl)
  ·by_cases hb:b∈tabs.map (·.2)
   ·have z':=(xAz hb).symm.trans z;cases z';obtain⟨q,hq,rfl⟩:=xAo.mp hb;exact (htab q hq).2.2
   ·have z':=(xAw hb).symm.trans z
    by_cases hba:b=a
    ·have z'':=(xAz hba).symm.trans z';cases z'';subst hba;exact⟨ha,by rw[xAa]; exact hl,vs,_,rv,ha⟩
    ·have z'':=(xAw hba).symm.trans z';cases z''
  ·by_cases hb:b∈tabs.map (·.2)
   ·obtain⟨q,hq,rfl⟩:=xAo.mp hb;exact .inl ⟨q,hq,rfl⟩
   ·have z':=(xAw hb).symm.trans z
    by_cases hba:b=a
    ·have z'':=(xAz hba).symm.trans z';cases z'';exact .inr ⟨hba,hk,_,_,rfl⟩
    ·have z'':=(xAw hba).symm.trans z';cases z''
theorem walk_ofT {l:OpenLaw}{n k:Nat}{q:Program}{loose:List Str}{XP:(Str->Option Value)->Heap->Prop}{YP:World->Heap->Prop}{d:DefRec}{K:Params->Frag}{sp:World->Sp}{x:Str}(tabs:List (Addr×Addr))
  (hn:l.most=some n)(hn2:n<=sizeLine)(hdf:d.params.defaults=[])(hr:bY k callerA)
  (hY:∀ (w:World) (h:Heap),YP w h->(K w.params).In h/\∀ p∈tabs,h.get? p.2=some (tabObj #[]))
  (hK:∀ (w:World),∀ p∈tabs,codeHdIn (K w.params) p.1 p.2=true/\(K w.params).lookup p.2=none)
  (F:∀ (w:World) (mg:xSO) (fa:Addr) (h:Heap),(K w.params).In h->h.Ns mainGlobals mg->mg d.name=some (.ref fa) ->
   ∃ fd:FuncData,(∀ (s:Shared) (u:Value),BindsTo s fd ⟨[u],[]⟩ [(x,u)]) /\
    ∀ base:Heap,(K w.params).In base->base.Ns mainGlobals mg->oP mg base->aP l.prog w (K w.params) mg base CX0 k fa fd [x] (sp w))
  (hsp:∀ (w:World) (H:Hp) (a:Addr) (ns:List Int),ns.length<=n->(∀ p∈tabs,H p.2=some (.tbl #[]))->SqL (K w.params) H a (ns.map V.int)->sp w [.ref a] H (λv _=>v=.bl true) λ_ _ _=>False) :
  WalkO q loose XP YP l.row.toRowW d [] (λf vs=>PySem.call f vs):=by
 refine Att.attach_call hn hdf λw s₀ s₁ mg mb fa o pm cd doc a vs ns G Y ho hd hcd hmg hobj hints hlen hg=>?_;obtain⟨KX,hts⟩:=hY w _ Y;obtain⟨fd,hb,hF⟩:=F w mg fa _ KX G.T.g hmg;exact aFp (tabs:=tabs) KX G.T.g G.T.b G.T.builtins G.T.nolimit hg (λp hp=>⟨(hK w p hp).1,(hK w p hp).2,hts p hp⟩) G.T.bmain hobj hints (xAs hlen hn2) hr hF hb (λH hT hS=>hsp w H a ns hlen hT hS) λH e s' z=>z
section
variable {X:Cx}
theorem mP:∀ {ss:List Str}{us:List Value},bU (ss.map V.str) us->StrsAre us ss
 | [],_,r=>by rw[xFu] at r; cases r; exact .nil
 | x::ss,_,r=>by
  rw[xBx] at r;cases r with
  | cons r1 r2=>
   obtain⟨t,rfl⟩:=r1;exact .cons _ _ (mP r2)
theorem oQ:∀ {us:List Value}{ss:List Str},StrsAre us ss->bU (ss.map V.str) us
 | _,_,.nil=>.nil
 | _,_,.cons _ t r=>.cons ⟨t,rfl⟩ (oQ r)
inductive aOb (K:xAb)(xs:List V)(H:Hp)(Q:VK):Prop
 | mk (a:Addr)(ss:List Str)(h0_:xs=[.ref a])(h1_:SqL K H a (ss.map V.str))(h2_:ss.length<64)(h3_:∀ (p:Addr) (ss':List Str),H p=none->ss'.Perm ss->sortedS ss'=true->Q (.ref p) (upd H p (.lst (ss'.map V.str))))
theorem wP:CallR X (.builtin "sorted") (aOb X.K):=by
 intro pins s σ H xs us Q I r h;obtain⟨a,ss,rfl,hs,h64,q⟩:=h;obtain⟨u,rfl,rx⟩:=kH r;cases rx;obtain⟨its,rv,pl,hz⟩:=I.list hs;have hl:its.length=ss.length:=by rw[<- rv.length,xAa]
 refine sorted_strs pl.isList (mP rv) (by omega) λout ss' a1 a2 a3=>?_;obtain⟨e,he⟩:=sortedAll_at s.heap its out;have hn:H (s.heap.objs.size+1)=none:=I.hok.fresh (xFi _);refine⟨.ref (s.heap.objs.size+1),_,I.laid (t':=s.toks) (λb o z=>sortedAll_old z) (xFi _) ?_,rfl,q _ ss' hn a2 a3⟩;have hl':ss'.length=ss.length:=a2.length_eq;exact⟨by rw[xAa,hl',sizeLine_eq]; omega,out.toList,e,oQ a1,he⟩
def aVz:V->Hp->VK->Prop:=λx H Q=>∃ z,x=.str z/\z.length<=sizeLine/\Q (.str z) H
theorem aQq {e:Expr}{te:TE}{pos:Pos}(he:PE X e te):PE X (.FormattedValue e (-1) none pos) (tUn aVz te):=by
 intro pins s σ H Q I h;refine FormattedValue_plain (thn (he pins s σ H _ I h) λv s1 ⟨x,H1,I1,r1,z,e1,hz,q⟩=>?_);subst e1;obtain⟨t,rfl⟩:=r1;exact formatField_str (λt' tk=>⟨.str z,H1,I1.tok tk,⟨_,rfl⟩,q⟩) hz
def aCd:List TE->Str->TE
 | [],out=>λ_ H Q=>out.length<=sizeLine/\Q (.str out) H
 | t::r,out=>λσ H Q=>t σ H λx H1=>∃ y,x=.str y/\(out++y).length<=sizeLine/\aCd r (out++y) σ H1 Q
def PJ (X:Cx)(ps:List (Sem Value))(ts:List TE):Prop:=
 ∀ (out:Str) (pins:xPn) (s:Shared) (σ:St) (H:Hp) (Q:VK),Inv X pins σ H s->aCd ts out σ H Q->wpAny (model X.prog X.w) X.A (joinParts out ps) (EP X pins σ Q) X.xe s
theorem aId:PJ X [] []:=λout pins s σ H Q I ⟨hz,q⟩=>joinParts_nil ⟨.str out,H,I.tok _,⟨_,rfl⟩,q⟩ hz
theorem nW {e:Expr}{te:TE}{ps:List (Sem Value)}{ts:List TE}(he:PE X e te)(hr:PJ X ps ts):PJ X (eval e X.env::ps) (te::ts):=by
 intro out pins s σ H Q I h;refine joinParts_cons (thn (he pins s σ H _ I h) λv s1 ⟨x,H1,I1,r1,y,e1,hz,q⟩=>?_);subst e1;obtain⟨t,rfl⟩:=r1;exact⟨hz,hr _ pins s1 σ H1 Q I1 q⟩
theorem xT {a b c:Expr}{ta tb tc:TE}{pos:Pos}(ha:PE X a ta)(hb:PE X b tb)(hc:PE X c tc):PE X (.JoinedStr [a,b,c] pos) (aCd [ta,tb,tc] Str.empty):=by
 intro pins s σ H Q I h;exact JoinedStr_many ((nW ha (nW hb (nW hc aId))) Str.empty pins s σ H Q I h)
end
def Ite (K:Frag)(a:Addr):It:=
 ⟨λi H=>∃ xs x,SqL K H a xs/\xs[i]?=some x,λi H y H'=>∃ (t:Addr) (x:V),H t=none/\y=.ref t/\H'=upd H t (.tup [.int i,x])/\∀ xs,SqL K H a xs->xs[i]?=some x,λi H=>∃ xs,SqL K H a xs/\xs.length<=i⟩
theorem aEc {P:Program}{w:World}{K:Frag}{elts:List Expr}{x1:Nat}{tpos:Pos}(a e it:Addr)(hne:e≠it) :
  zC P w K (.Tuple elts x1 tpos) (Ite K a) [e,it] e (λi h=>(∃ old,IsEnum h e it i old)/\h.IsListIter it a i) where
 mem:=by simp
 obj:=λi h st b hb=>by
  obtain⟨⟨old,h1⟩,o,h2,c,d⟩:=st;rcases xAk.mp hb with rfl | hb
  ·exact⟨_,h1,λv z=>by cases z⟩
  ·have e':b=it:=by simpa using hb
   subst e';exact⟨o,h2,λv z=>by rw[d] at z; cases z⟩
 keep:=λi h h' st k=>by
  obtain⟨⟨old,h1⟩,h2⟩:=st;exact⟨⟨old,k e (by simp) _ h1⟩,h2.at λo z=>k it (by simp) o z⟩
 item:=by
  intro X hP hw hK hc i pins s σ H E I hf st hg;subst hP hw hK;obtain⟨xs,x,hq,hx⟩:=hg;obtain⟨its,rv,p,hz⟩:=I.list hq;obtain⟨u,hu,ru⟩:=rv.get hx;obtain⟨⟨old,he⟩,hit⟩:=st;have fe:=hf e (by simp);have fi:=hf it (by simp);refine wpAny_pyNext_enum_item he hit p.isList (x:=u) (by simpa using hu) hne λh1 eo hit1 htup hsz hk=>⟨.ref s.heap.objs.size,rfl,wpAny_letOwnedTupleGo_enum eo λh2 en sb=>?_⟩;have hn:H s.heap.objs.size=none:=I.hok.fresh (xAh _);have nes:e≠s.heap.objs.size:=xBd (xAp he);have kp:∀ b o,b≠e->b≠it->s.heap.get? b=some o->h2.get? b=some o:=λb o n1 n2 z=>(sb.2 b n1).trans (hk b o n1 n2 z);have nH:∀ b v,H b=some v->b≠e/\b≠it:=λb v z=>⟨λy=>(by rw[y,fe.1] at z; cases z),λy=>(by rw[y,fi.1] at z; cases z)⟩;have nS:∀ b v,H b=some v->b≠s.heap.objs.size:=λb v z=>aI z hn
  have I2:Inv X pins σ (upd H s.heap.objs.size (.tup [.int i,x])) { s with heap:=h2,toks:=s.toks+1 }:=by
   refine I.step (g':=s.gens) (d':=s.drawn) (ch:=[e,it]) (λb hb=>?_) (λb o _ _ hc z _=>kp b o (λy=>hc (by simp[y])) (λy=>hc (by simp[y])) z) (λb o _ _ hc z _=>⟨o.slots,kp b o (λy=>hc (by simp[y])) (λy=>hc (by simp[y])) z⟩)
    (λb o _ z n=>by rw[aH (xBd (xAp z))]; exact n) (λb o hc z=>⟨o,kp b o (λy=>hc (by simp[y])) (λy=>hc (by simp[y])) z⟩) (λb ys z=>by rw[aH (nS b _ z)]; exact z) (λb o v z=>by rw[aH (nS b _ z)]; exact z)
    (λb ps z=>⟨#[],by rw[aH (nS b _ z),z]; simp⟩) (λm hm=>?_) (λb v z=>?_) I.bare
   ·rcases xAk.mp hb with rfl | hb
    ·exact⟨fe.2.2.2.1,fe.2.1,fe.2.2.2.2.1,fe.2.2.2.2.2⟩
    ·have e':b=it:=by simpa using hb
     subst e';exact⟨fi.2.2.2.1,fi.2.1,fi.2.2.2.2.1,fi.2.2.2.2.2⟩
   ·obtain⟨o,es,ep,ho,r⟩:=hm;exact⟨o,es,ep,kp _ o (Ne.symm fe.2.1) (Ne.symm fi.2.1) ho,r⟩
   ·by_cases hb:b=s.heap.objs.size
    ·subst hb;rw[aD] at z;cases z;exact⟨by show 2<=sizeLine; decide,[.int i s.toks,u],.cons ⟨_,rfl⟩ (.cons ru .nil),⟨_,(sb.2 _ (Ne.symm nes)).trans htup,rfl,_,rfl⟩⟩
    ·rw[aH hb] at z;refine (I.hok b v z).stay (λc y hc q=>kp c y ?_ ?_ q) (λc q=>by rw[aH (nS c _ q)]; exact q) λc ys q=>by rw[aH (nS c _ q)]; exact q
     ·rcases hc with rfl | hc
      ·exact (nH c v z).1
      ·exact (nH c _ hc).1
     ·rcases hc with rfl | hc
      ·exact (nH c v z).2
      ·exact (nH c _ hc).2
  refine⟨.ref s.heap.objs.size,_,I2,rfl,⟨s.heap.objs.size,x,hn,rfl,rfl,λys hy=>by rw[I.list_inj hy hq]; exact hx⟩,⟨⟨u,en⟩,?_⟩,λb hb=>?_⟩
  ·obtain⟨o,z,c,d⟩:=hit1;exact⟨o,(sb.2 it (Ne.symm hne)).trans z,c,d⟩
  ·rw[aH ?_]
   ·exact (hf b hb).1
   ·rcases xAk.mp hb with rfl | hb
    ·exact nes
    ·have e':b=it:=by simpa using hb
     subst e';obtain⟨o,z,_⟩:=hit;exact xBd (xAp z)
 done:=by
  intro X hP hw hK hc i pins s σ H E I hf st hg;subst hP hw hK;obtain⟨xs,hq,hlen⟩:=hg;obtain⟨its,rv,p,hz⟩:=I.list hq;obtain⟨⟨old,he⟩,hit⟩:=st;have fi:=hf it (by simp);have hl:=rv.length
  have hn:its.toArray[i]?=none:=by
   rw[xFw];exact xCe.mpr (by omega)
  exact wpAny_pyNext_enum_end (I.ok.hd hc) he hit p.isList hn λh' ext=>⟨rfl,I.turned (t':=s.toks) (λb o hb z=>ext b o hb z) fi.1 fi.2.1 fi.2.2.2.1 fi.2.2.2.2.1 fi.2.2.2.2.2⟩
 self:=λ_ i s _ _ ⟨⟨_,h1⟩,_⟩ h=>wpAny_pyIter_enum h1 h
section
variable {X:Cx}{elts:List Expr}{x1:Nat}{tpos:Pos}
inductive aXf (K:Frag)(vs:List V)(H1:Hp)(R:It->Hp->Prop):Prop
 | mk (a:Addr)(h1:vs=[.ref a])(h2:∃ xs,SqL K H1 a xs)(r:R (Ite K a) H1)
def aTf (K:Frag)(ta:TA):TI:=λσ H R=>ta σ H λvs H1=>aXf K vs H1 R
theorem aDb {l:Expr}{ta:TA}{p pos:Pos}(hg:Gl X "enumerate")(hm:X.mg "enumerate" = none)(ha:PA X [l] ta)(hs:kX l=false:=by rfl):PI X (.Tuple elts x1 tpos) (.Call (.Name "enumerate" p) [l] [] pos) (aTf X.K ta):=by
 intro pins s σ H R I h;have he:starEach [l] X.env=[(false,eval l X.env)]:=cK hs;refine Call_ (mV I hg hm Bo.enumerate (xDp (thn (ha pos pins s σ H _ I h) λus s1 ⟨vs,H1,I1,r1,a,e1,⟨xs,hq⟩,q⟩=>?_) he rfl));subst e1;obtain⟨u,rfl,rx⟩:=kH r1;cases rx;obtain⟨its,rv,pl,hz⟩:=I1.list hq;refine call_enumerate_list pl.isList λh' h1 h2 h3 h4=>?_;have I2:Inv X pins σ H1 { s1 with heap:=h' }:=I1.kept (t':=s1.toks) h4;refine wpAny_pyIter_enum h1 ⟨s1.heap.objs.size+1,[s1.heap.objs.size+1,s1.heap.objs.size],_,Ite X.K a,H1,rfl,I2,aEc a _ _ (Nat.succ_ne_self _),⟨⟨_,h1⟩,h2⟩,λb hb=>?_,q⟩
 have hge:s1.heap.objs.size<=b:=by
  rcases xAk.mp hb with rfl | hb
  ·exact xFi _
  ·have e':b=s1.heap.objs.size:=by simpa using hb
   rw[e'];exact xAh _
 exact I1.fpOk hge (I1.hok.fresh hge)
theorem aLf {K:Frag}{a D:Addr}{xs:List V}{g:TG}{tc:TT}{te:TE}{R:Hp->Prop}{σ:St}{H:Hp}(Pv:Nat->St->Hp->Prop)(h0:Pv 0 σ H)
  (hl:∀ i σ H,i<=xs.length->Pv i σ H->SqL K H a xs)
  (hs:∀ i x σ H t,xs[i]?=some x->Pv i σ H->H t=none->g (.ref t) σ (upd H t (.tup [.int i,x])) λσ2 H2=>tc σ2 H2 λb H3=>if b=true then te σ2 H3 λy H4=>∃ ys,H4 D=some (.lst ys)/\ys.length<sizeLine/\Pv (i+1) σ2 (upd H4 D (.lst (ys++[y]))) else Pv (i+1) σ2 H3)
  (hd:∀ σ H,Pv xs.length σ H->R H):xA (Ite K a) D g tc te R σ H:=by
 refine⟨λi m σ H=>m=xs.length-i/\i<=xs.length/\Pv i σ H,⟨xs.length,by simp,xBu _,h0⟩,?_⟩;rintro i m σ H ⟨rfl,hi,p⟩;have q:=hl i σ H hi p
 by_cases hlt:i<xs.length
 ·refine .inr ⟨⟨xs,xs[i],q,by simp[hlt]⟩,Pv (i+1),λσ' H' p'=>⟨xs.length-(i+1),by omega,rfl,hlt,p'⟩,λx H' y=>?_⟩;obtain⟨t,v,ht,rfl,rfl,hv⟩:=y;exact hs i v σ H t (hv xs q) p ht
 ·have e:i=xs.length:=by omega
  subst e;exact .inl ⟨⟨xs,q,xAh _⟩,hd σ H p⟩
theorem aKv {K:Frag}{a:Addr}{xs:List V}{g:TG}{tb:TS}{D:tL}{σ:St}{H:Hp}(Pv:Nat->St->Hp->Prop)(h0:Pv 0 σ H)(hl:∀ i σ H,i<=xs.length->Pv i σ H->SqL K H a xs)
  (hs:∀ i x σ H t,xs[i]?=some x->Pv i σ H->H t=none->g (.ref t) σ (upd H t (.tup [.int i,x])) λσ2 H2=>tb { D with nx:=Pv (i+1),ct:=Pv (i+1),bk:=D.nx } σ2 H2)(hd:∀ σ H,Pv xs.length σ H->D.nx σ H) :
  ∃ W:Nat->Nat->St->Hp->Prop,(∃ m,W 0 m σ H)/\∀ i m σ H,W i m σ H ->
   ((Ite K a).stop i H/\D.nx σ H)\/((Ite K a).go i H/\∃ N:St->Hp->Prop,(∀ σ' H',N σ' H'->∃ m',m'<m/\W (i+1) m' σ' H')/\∀ x H',(Ite K a).yld i H x H'->g x σ H' λσ2 H2=>tb { D with nx:=N,ct:=N,bk:=D.nx } σ2 H2):=by
 refine⟨λi m σ H=>m=xs.length-i/\i<=xs.length/\Pv i σ H,⟨xs.length,by simp,xBu _,h0⟩,?_⟩;rintro i m σ H ⟨rfl,hi,p⟩;have q:=hl i σ H hi p
 by_cases hlt:i<xs.length
 ·refine .inr ⟨⟨xs,xs[i],q,by simp[hlt]⟩,Pv (i+1),λσ' H' p'=>⟨xs.length-(i+1),by omega,rfl,hlt,p'⟩,λx H' y=>?_⟩;obtain⟨t,v,ht,rfl,rfl,hv⟩:=y;exact hs i v σ H t (hv xs q) p ht
 ·have e:i=xs.length:=by omega
  subst e;exact .inl ⟨⟨xs,q,xAh _⟩,hd σ H p⟩
end
section
variable {X:Cx}
theorem aNg {k:Key}{v:Value}(h:pZ k v=true):cC (kV k) v:=by
 rcases dJ h with⟨i,t,rfl,rfl⟩ | ⟨x,t,rfl,rfl⟩
 ·exact⟨t,rfl⟩
 ·exact⟨t,rfl⟩
theorem uS:∀ {kvs:List (Key×V)}{vs:List (Key×Value)}{us:List Value},KV kvs vs->us.length=vs.length->(∀ (j:Nat) (u:Value),us[j]?=some u->∃ k x,vs[j]?=some (k,x)/\pZ k u=true)->bU (kvs.map λkv=>kV kv.1) us
 | [],_,us,r,hl,_=>by
  unfold KV at r;cases r
  have:us=[]:=xHx.mp hl
  subst this;exact .nil
 | p::kvs,_,us,r,hl,h=>by
  unfold KV at r;cases r with
  | @cons a b as bs h1 h2=>
   cases us with
   | nil=>simp at hl
   | cons u us=>
    refine .cons ?_ (uS (vs:=bs) h2 (by simpa using hl) λj v e=>?_)
    ·obtain⟨k,x,e1,e2⟩:=h 0 u rfl;have e1:some b=some (k,x):=e1;cases e1;show cC (kV p.1) u;rw[show p.1=k from h1.1]
     exact aNg e2
    ·obtain⟨k,x,e1,e2⟩:=h (j+1) v (by simpa using e);exact⟨k,x,by simpa using e1,e2⟩
theorem nU {α:Type} [DecidableEq α]:∀ (xs ys:List α),xs.length=ys.length->((List.range xs.length).all λj=>decide (xs[j]?=ys[j]?))=decide (xs=ys):=by
 intro xs ys hl;rw[xDr,xBn,xEw];constructor
 ·intro h;refine List.ext_getElem? λi=>?_
  by_cases hi:i<xs.length
  ·exact xAt (h i (xCa.mpr hi))
  ·rw[xCe.mpr (by omega),xCe.mpr (by omega)]
 ·rintro rfl j _;exact xAm rfl
theorem tY {A:Around}{s:Shared}{ss ts:List Str}{us ws:List Value}(r:bU (ss.map V.str) us)(r':bU (ts.map V.str) ws)(hl:ss.length=ts.length) :
  ∀ j (h1:j<us.toArray.size) (h2:j<ws.toArray.size),SeqAt.EqAt A s us.toArray[j] ws.toArray[j] (decide (ss[j]?=ts[j]?)):=by
 intro j h1 h2;have l1:=r.length;have l2:=r'.length;rw[xAa] at l1 l2;have g1:j<ss.length:=by rw[l1]; simpa using h1
 have g2:j<ts.length:=by rw[l2]; simpa using h2
 obtain⟨u,e1,q1⟩:=r.get (i:=j) (x:=.str ss[j]) (by simp[g1]);obtain⟨v,e2,q2⟩:=r'.get (i:=j) (x:=.str ts[j]) (by simp[g2]);obtain⟨t,rfl⟩:=q1;obtain⟨t',rfl⟩:=q2
 have f1:us.toArray[j]=.str ss[j] t:=by
  have:us[j]?=some us.toArray[j]:=by simp
  rw[e1] at this;exact (xBj this).symm
 have f2:ws.toArray[j]=.str ts[j] t':=by
  have:ws[j]?=some ws.toArray[j]:=by simp
  rw[e2] at this;exact (xBj this).symm
 rw[f1,f2];have eb:decide (ss[j]?=ts[j]?)=decide (ss[j]=ts[j]):=by simp[g1,g2]
 rw[eb];intro prog w E Q hq;exact wpAny_eqBool_str hq
inductive aOu (K:Frag)(neg:Bool)(x:V)(y:V)(H:Hp)(Q:VK):Prop
 | mk (a b:Addr)(ss ts:List Str)(h0_:x=.ref a)(h1_:y=.ref b)(h2_:SqL K H a (ss.map V.str))(h3_:SqL K H b (ts.map V.str))(h4_:Q (.bl (if neg then !decide (ss=ts) else decide (ss=ts))) H)
theorem wB (hu:X.A.units<cLine):OpR X (compareOp .Eq) (aOu X.K false):=by
 intro pins s σ H x y v u Q I rx ry h;obtain⟨a,b,ss,ts,rfl,rfl,ha,hb,q⟩:=h;cases rx;cases ry;obtain⟨us,r1,p1,_⟩:=I.list ha;obtain⟨ws,r2,p2,_⟩:=I.list hb;have l1:=r1.length;have l2:=r2.length;rw[xAa] at l1 l2
 by_cases hl:ss.length=ts.length
 ·refine SeqAt.eq_listAt p1.isList p2.isList (by simp; omega) hu (tY r1 r2 hl) ⟨.bl (decide (ss=ts)),H,I,?_,q⟩;rw[xAv,<- l1,nU ss ts hl];rfl
 ·refine SeqAt.eq_list_lengthsAt p1.isList p2.isList (by simp; omega) hu ⟨.bl (decide (ss=ts)),H,I,?_,q⟩;rw[xBc λz=>hl (by rw[z])];rfl
theorem nX (hu:X.A.units<cLine):OpR X (compareOp .NotEq) (aOu X.K true):=by
 intro pins s σ H x y v u Q I rx ry h;obtain⟨a,b,ss,ts,rfl,rfl,ha,hb,q⟩:=h;cases rx;cases ry;obtain⟨us,r1,p1,_⟩:=I.list ha;obtain⟨ws,r2,p2,_⟩:=I.list hb;have l1:=r1.length;have l2:=r2.length;rw[xAa] at l1 l2
 by_cases hl:ss.length=ts.length
 ·refine SeqAt.RcNeAt.lists p1.isList p2.isList (by simp; omega) hu (tY r1 r2 hl) X.prog X.w X.xe _ ⟨.bl (!decide (ss=ts)),H,I,?_,q⟩;rw[xAv,<- l1,nU ss ts hl];rfl
 ·refine SeqAt.RcNeAt.lists_lengths p1.isList p2.isList (by simp; omega) hu X.prog X.w X.xe _ ⟨.bl (!decide (ss=ts)),H,I,?_,q⟩;rw[xBc λz=>hl (by rw[z])];rfl
end
section
variable {X:Cx}
inductive aOc (xs:List V)(H:Hp)(Q:VK):Prop
 | mk (d:Addr)(kvs:List (Key×V))(ss:List Str)(h0_:xs=[.ref d])(h1_:H d=some (.dK kvs))(h2_:kvs.map (λkv=>kV kv.1)=ss.map V.str)(h3_:ss.length<64)(h4_:∀ (p:Addr) (ss':List Str),H p=none->ss'.Perm ss->sortedS ss'=true->Q (.ref p) (upd H p (.lst (ss'.map V.str))))
theorem oJ (hc:X.calm=true):CallR X (.builtin "sorted") aOc:=by
 intro pins s σ H xs us Q I r h;obtain⟨d,kvs,ss,rfl,hd,hks,h64,q⟩:=h;obtain⟨u,rfl,rx⟩:=kH r;cases rx;obtain⟨hz,lo,vs,rel,dd⟩:=aPi I.hok hd;obtain⟨ep,hat⟩:=dd.dictAt;have hl:kvs.length=vs.length:=Paired.length rel
 have hls:kvs.length=ss.length:=by
  have:=congrArg List.length hks
  simpa using this
 refine call_function_entry kind_sorted plain_sorted entry_sorted (args_sorted1 _) ?_;unfold Builtin.«sorted»;refine xAc (m:=checkCount "sorted" 1 1 _) (xAl ?_);refine xAc (kdu_collect (A:=X.A.in1) (kdl_dict (knd:=dG X.prog X.w) (kvs:=vs) (ep:=ep) lo) (I.ok.hd hc) hat (by omega) λh' tk acc hk hacc=>?_);have hal:acc.toList.length=vs.length:=by rw[xCq]; exact hacc.1
 have rv:bU (ss.map V.str) acc.toList:=by
  rw[<- hks];exact uS rel hal λj v e=>hacc.2 j v (by rw[<- xDs]; exact e)
 have hS:=mP rv;refine xAc (wpAny_newList ?_ (by rw[hal]; omega));have hoL:(h'.push (seqObj "list" acc.toList.toArray 0)).get? h'.objs.size=some (seqObj "list" acc.toList.toArray 0):=xAq _ rfl;refine xAc (xEl (xCz slot_list_sort ⟨_,hoL,rfl⟩ entry_list_sort (list_sort_treeK strKind_oneLt hoL hS.keysOf (λv₁ v₂ rest e=>keyKind_strs (by rw[<- e]; exact hS)) (by rw[hal]; omega) λst' a1 a2=>⟨_,rfl,?_⟩) (args_list_sort _)));obtain⟨ss',b1,b2,b3⟩:=sorted_out_str hS a1 a2;refine xAl ⟨_,rfl,?_⟩;have I1:Inv X pins σ H { s with heap:=h',toks:=tk }:=I.kept (t':=tk) hk;have hn:H h'.objs.size=none:=I1.hok.fresh (xAh _);obtain⟨e,he⟩:=sortedHeap_at (vs:=acc.toList) (out:=(arrOf st').map (·.2)) hoL;refine⟨.ref h'.objs.size,_,I1.laid (t':=tk) (λb o z=>?_) (xAh _) ?_,rfl,q _ ss' hn b2 b3⟩
 ·have hb:b<h'.objs.size:=xAp z;rw[sortedHeap_old (xBd hb) (by rw[size_push']; exact Nat.lt_succ_of_lt hb)];exact xAf _ z
 ·exact⟨by rw[xAa,b2.length_eq,sizeLine_eq]; omega,_,e,oQ b1,he⟩
end
section
variable {X:Cx}{pins:xPn}{σ:St}{H:Hp}{s:Shared}{d:Addr}{kvs:List (Key×V)}
theorem Inv.freeze (I:Inv X pins σ H s)(e:H d=some (.dK kvs)):∃ o,Inv X pins σ (upd H d (.frz o (.dK kvs))) s:=by
 have hO:=I.hok d _ e;obtain⟨o,ho⟩:=hO.ex
 have ne:∀ b u,H b=some u->(∀ k,u≠.dK k)->(upd H d (.frz o (.dK kvs))) b=some u:=λb u z n=>by
  rw[aH (λy=>by rw[y,e] at z; cases z; exact n kvs rfl)];exact z
 refine⟨o,I.step (h':=s.heap) (g':=s.gens) (d':=s.drawn) (t':=s.toks) (ch:=[]) (λb hb=>nomatch hb) (λb u _ _ _ z _=>z) (λb u _ _ _ z _=>⟨u.slots,z⟩)
  (λb u _ _ n=>by rw[aH (λy=>by rw[y,e] at n; cases n)]; exact n) (λb u _ z=>⟨u,z⟩) (λb xs z=>ne b _ z λk y=>by cases y) (λb u v z=>ne b _ z λk y=>by cases y)
  (λb ps z=>⟨#[],by rw[ne b _ z λk y=>by cases y]; simp⟩) (λm hm=>hm) (λb u z=>?_) I.bare⟩
 by_cases hb:b=d
 ·subst hb;rw[aD] at z;cases z;exact⟨ho,hO⟩
 ·rw[aH hb] at z;exact (I.hok b u z).stay (λc y _ q=>q) (λc q=>ne c _ q λk y=>by cases y) λc ys q=>ne c _ q λk y=>by cases y
inductive aXe (v:V)(H':Hp)(Q:VK):Prop
 | mk (d:Addr)(kvs:List (Key×V))(h1:v=.ref d)(h2:H' d=some (.dK kvs))(q:∀ o,Q v (upd H' d (.frz o (.dK kvs))))
def aLx (t:TE):TE:=λσ H Q=>t σ H λv H'=>aXe v H' Q
theorem aEm {e:Expr}{t:TE}(h:PE X e t):PE X e (aLx t):=by
 intro pins s σ H Q I q;refine thn (h pins s σ H _ I q) λv s1 ⟨x,H1,I1,r1,d,kvs,e1,e2,q1⟩=>?_;obtain⟨o,I2⟩:=I1.freeze e2;exact⟨x,_,I2,r1,q1 o⟩
end
section
variable {X:Cx}{tg:Expr}
end
section
variable {X:Cx}
end
section
variable {X:Cx}{pins:xPn}{σ:St}{H:Hp}{s:Shared}
theorem aNf {params:Arguments}{body:Expr}{scope:Scope}{pos:Pos}{c c' P:Addr}{ps:Array Value}{Q:xVP}{E:xVP}(I:Inv X pins σ H s)(hcode:X.env.code=.ref c)(hc:codeHdIn X.K c P=true)(bm:oP X.mg X.base)
  (hP:H P=some (.tbl ps))(ht:TriplesOk ps.toList)(hf:codeAmong pos ps.toList=some (.ref c'))(hdef:defaultsOf params X.env=([],[]))(hfr:∀ n∈eA scope,X.env.kindOf n=some .cell\/X.env.kindOf n=some .free)
  (k:∀ (f:Addr) (pm ctv:Value) (s1:Shared),Inv X pins σ H s1->s.heap.objs.size<=f->(∀ b o,s.heap.get? b=some o->s1.heap.get? b=some o) ->
   s1.heap.get? f=some (kla_obj "<lambda>" (X.env.qual++"<lambda>") params body scope (gA scope X.env) pm c' ctv)->Q (.ref f) s1) :
  wpAny (model X.prog X.w) X.A (eval (.Lambda params body scope pos) X.env) Q E s:=by
 have hcl:closureFor scope X.env=pure (gA scope X.env):=gW λn hn=>I.ok.has n (hfr n hn);obtain⟨b,ob,b1,b2,b3,b4,b5,b6⟩:=bm;have hg:s.heap.Ns mainGlobals X.mg:=I.mod.glob.keeps I.bk;have bP:∀ d o,X.base.get? d=some o->d≠P:=λd o e z=>by have:=(I.bs d o e).2; rw[z,hP] at this; cases this
 have hbG:b≠mainGlobals:=λz=>by
  obtain⟨o,es,ep,e,hd,_⟩:=I.mod.glob;rw[z,e] at b3;cases b3;rw[hd] at b6;cases b6
 have hob:s.heap.get? P=some (tabObj ps):=I.hok P _ hP;refine kla_eval hdef (kla_makeFunctionHit (mg:=X.mg) hcl I.ok.glob hg hcode (codeHd_of_K I.kIn hc) hob ht hf ⟨b,ob,b1,b2,hbG,bP _ _ b3,I.bk _ _ b3,b4,b5,b6⟩ λctv h' tk hx hge=>?_);exact k h'.objs.size _ ctv _ (I.kept (t':=tk) λd o e=>xAf _ (hx d o e)) hge (λd o e=>xAf _ (hx d o e)) (xAq _ rfl)
end
section
variable {X:Cx}

end
def unl:List Str->List Str->List Str
 | [],k=>k
 | z::r,k=>unl r (if z∈k then k else k++[z])
theorem nd1 (y:Str):[y].Nodup:=xCi.mpr ⟨λh=>(nomatch h),.nil⟩
theorem aCa:∀ (r k:List Str) (z:Str),z∈unl r k↔z∈k\/z∈r
 | [],k,z=>by simp[unl]
 | y::r,k,z=>by
  show z∈unl r _↔_;rw[aCa r]
  by_cases h:y∈k
  ·rw[xAz h,xAk];exact⟨λq=>q.imp id .inr,λq=>q.elim .inl λq=>q.elim (λe=>.inl (e▸h)) .inr⟩
  ·rw[xAw h,xAk,xBy,xAg,or_assoc]
theorem oR:∀ (r k:List Str),k.Nodup->(unl r k).Nodup
 | [],k,h=>h
 | y::r,k,h=>by
  refine oR r _ ?_
  by_cases q:y∈k
  ·rw[xAz q]; exact h
  ·rw[xAw q];exact xFd.mpr ⟨h,nd1 _,λa ha b hb e=>q (by rw[<- xAg.mp hb,<- e]; exact ha)⟩
section
variable {prog:Program}{w:World}{A:Around}{E:xVP}{s:Shared}
end
section
variable {M:Model}{A:Around}{E:xVP}{s:Shared}{α:Type}
end
section
variable {prog:Program}{w:World}
variable {A:Around}{R:Result->Shared->Prop}{It:Addr}{fp wr:List Addr}{G:Array GenState->Array GenState->Prop}{n:Nat}{Pv:Nat->Value->Prop}{St':Nat->Shared->Prop}
end
section
variable {prog:Program}{w:World}{A:Around}{E:xVP}{s:Shared}
set_option maxHeartbeats 6000000 in
set_option maxHeartbeats 6000000 in
end
section
variable {prog:Program}{w:World}{A:Around}{E:xVP}{s:Shared}
end
section
variable {prog:Program}{w:World}{A:Around}{E:xVP}{s:Shared}
theorem kQ {α:Type} [DecidableEq α]:∀ {l m:List α},l.Nodup->(∀ x∈l,x∈m)->m.length<=l.length->l.Perm m
 | [],[],_,_,_=>.nil
 | [],_::_,_,_,h=>xAu h (by simp)
 | a::l,m,hn,hs,hl=>by
  obtain⟨ha,hn⟩:=xCi.mp hn;have hm:a∈m:=hs a (.head _);have p:=List.perm_cons_erase hm;refine ((kQ (l:=l) (m:=m.erase a) hn (λx hx=>?_) ?_).cons a).trans p.symm
  ·have:=p.mem_iff.mp (hs x (.tail _ hx))
   rcases xAk.mp this with e | e
   ·exact xAu (e▸hx) ha
   ·exact e
  ·rw[xFe hm];simp at hl;omega
end
section
variable {X:Cx}
end
section
variable {prog:Program}{w:World}{M:Model}{A:Around}{E:xVP}{s:Shared}{K:Frag}{x C:Addr}{ox:Obj}{od:Option Obj}
end
section
variable {X:Cx}
end
end L2
namespace L2
open PySem PySem.Spec PySem.Calls PyProof.Rows PySem.W
open PySem.AutoSeq1 (wpAny_loadPart')
structure Src (P:Program)(w:World)(it l:Addr)(st:Nat->Heap->Prop)(bk:Array Value->Heap->Prop):Prop where
 one:∀ {A:Around}{E:xVP}{s:Shared}{k:Nat}{us:Array Value}{x:Value}{Q:xVP},st k s.heap->bk us s.heap->us[k]?=some x ->
  (∀ h',st (k+1) h'->Heap.SameBut it s.heap h'->Q x { s with heap:=h' })->wpAny (model P w) A (Builtin.SmallTypes.nextOf (.ref it)) Q E s
 out:∀ {A:Around}{E:xVP}{s:Shared}{k:Nat}{us:Array Value}{Q:xVP},A.handled=none->st k s.heap->bk us s.heap->us[k]?=none ->
  (∀ h' e,Heap.ExtBut it s.heap h'->(∃ o,h'.get? e=some o/\o.cls=.type "StopIteration")->E (.ref e) { s with heap:=h' })->wpAny (model P w) A (Builtin.SmallTypes.nextOf (.ref it)) Q E s
 kp:∀ {k:Nat}{h h':Heap},st k h->(∀ o,h.get? it=some o->h'.get? it=some o)->st k h'
 bp:∀ {us:Array Value}{h h':Heap},bk us h->(∀ o,h.get? l=some o->h'.get? l=some o)->bk us h'
 ob:∀ {k:Nat}{h:Heap},st k h->∃ o vs,h.get? it=some o/\o.data=.fields vs
section
variable {P:Program}{w:World}
theorem aGx (it l:Addr):Src P w it l (λk h=>h.IsListIter it l k) (λus h=>h.IsList l us):=
 ⟨λh1 h2 hx q=>wpAny_nextOf_list_item h1 h2 hx q,λhh h1 h2 hx q=>wpAny_nextOf_list_end hh h1 h2 hx q,λh k=>h.at k,λh k=>h.at k,λ⟨o,e,_,d⟩=>⟨o,_,e,d⟩⟩
section
variable {A:Around}{E:xVP}{s:Shared}
theorem aLv {it t:Addr}{k:Nat}{us:Array Value}{x:Value}{Q:xVP}(h1:s.heap.IsTupleIter it t k)(h2:s.heap.IsTuple t us)(hx:us[k]?=some x)
  (q:∀ h',h'.IsTupleIter it t (k+1)->Heap.SameBut it s.heap h'->Q x { s with heap:=h' }):wpAny (model P w) A (Builtin.SmallTypes.nextOf (.ref it)) Q E s:=by
 obtain⟨o,e,c,d⟩:=id h1;obtain⟨ot,et,_,n,dt⟩:=h2;unfold Builtin.SmallTypes.nextOf;refine xAc (wpAny_callSpecial?_slot (name:=Str.ofString "__next__") h1.typeIs xDe (xCz xDe h1.typeIs xGp ?_ (xGl _)));show wpAny _ _ (field (.ref it) 0>>=_) _ E s;refine xAc (xCm e d (x:=.ref t) rfl ?_);show wpAny _ _ (if (Value.ref t==Value.none)=true then _ else _) _ E s
 rw[xAw (c:=(Value.ref t==Value.none)=true) λz=>xAr z];show wpAny _ _ (field (.ref it) 1>>=_) _ E s;refine xAc (xCm e d (x:=.int k 0) rfl ?_);show wpAny _ _ (seqItems? (.ref t)>>=_) _ E s;refine xAc (xCu et dt ?_);simp only[hx,Int.toNat_natCast];refine xAc (xGg e d (by simp) (xAl ⟨x,rfl,xAl (q _ ⟨_,xEh _ e (Obj.isFreed_of_fields (Obj.data_mapFields d _)),(Obj.cls_mapFields ..).trans c,?_⟩ (xEu ..))⟩));rw[Obj.data_mapFields d];simp[rawInt]
theorem aLu {it t:Addr}{k:Nat}{us:Array Value}{Q:xVP}(hh:A.handled=none)(h1:s.heap.IsTupleIter it t k)(h2:s.heap.IsTuple t us)(hx:us[k]?=none)
  (q:∀ h' e,Heap.ExtBut it s.heap h'->(∃ o,h'.get? e=some o/\o.cls=.type "StopIteration")->E (.ref e) { s with heap:=h' }):wpAny (model P w) A (Builtin.SmallTypes.nextOf (.ref it)) Q E s:=by
 obtain⟨o,e,c,d⟩:=id h1;obtain⟨ot,et,_,n,dt⟩:=h2;unfold Builtin.SmallTypes.nextOf;refine xAc (wpAny_callSpecial?_slot (name:=Str.ofString "__next__") h1.typeIs xDe (xCz xDe h1.typeIs xGp ?_ (xGl _)));show wpAny _ _ (field (.ref it) 0>>=_) _ E s;refine xAc (xCm e d (x:=.ref t) rfl ?_);show wpAny _ _ (if (Value.ref t==Value.none)=true then _ else _) _ E s
 rw[xAw (c:=(Value.ref t==Value.none)=true) λz=>xAr z];show wpAny _ _ (field (.ref it) 1>>=_) _ E s;refine xAc (xCm e d (x:=.int k 0) rfl ?_);show wpAny _ _ (seqItems? (.ref t)>>=_) _ E s;refine xAc (xCu et dt ?_);simp only[hx,Int.toNat_natCast];refine xAc (xHl (xAc (xGg e d (by simp) ?_)));show wpAny _ _ (newExc (.type "StopIteration") []>>=_) _ E _;refine xAc ?_;simp only[newTuple,newExc];refine xAc (xCc (xAc (m:=firstArgMember _ _) (xHc (a:=Value.none) (by first | rfl | (simp only[firstArgMember]; rfl)) (xCc ?_ (by size_fits)))) (by size_fits));simp only[raiseNew];refine xAc (wpAny_handled ?_)
 first | rw[show A.in1.handled=none from hh] | rw[hh]
 exact xAc (xAl (wpAny_throw (q _ _ (((xEu ..).extBut.push _).push _) ⟨_,xAq _ rfl,rfl⟩)))
theorem aMb (it t:Addr):Src P w it t (λk h=>h.IsTupleIter it t k) (λus h=>h.IsTuple t us):=
 ⟨λh1 h2 hx q=>aLv h1 h2 hx q,λhh h1 h2 hx q=>aLu hh h1 h2 hx q,λh k=>h.at k,λ⟨o,e,r⟩ k=>⟨o,k o e,r⟩,λ⟨o,e,_,d⟩=>⟨o,_,e,d⟩⟩
variable {z ti to i1 i2 l1 l2:Addr}{st1 st2:Nat->Heap->Prop}{bk1 bk2:Array Value->Heap->Prop}{k:Nat}{us vs:Array Value}{a b x y:Value}
theorem aLt {Q:xVP}(S1:Src P w i1 l1 st1 bk1)(S2:Src P w i2 l2 st2 bk2)(D:ZipApart z ti to i1 i2 l1 l2)(hz:IsZip s.heap z ti to .none)(hti:IsPair s.heap ti (.ref i1) (.ref i2))(hto:IsPair s.heap to a b)
  (h1:st1 k s.heap)(h2:st2 k s.heap)(b1:bk1 us s.heap)(b2:bk2 vs s.heap)(hx:us[k]?=some x)(hy:vs[k]?=some y)
  (hQ:∀ h',IsZip h' z ti to (rawInt s.heap.objs.size)->IsPair h' to x y->st1 (k+1) h'->st2 (k+1) h'->IsPair h' s.heap.objs.size x y->h'.objs.size=s.heap.objs.size+1 ->
   (∀ c o,c≠z->c≠to->c≠i1->c≠i2->s.heap.get? c=some o->h'.get? c=some o)->Q (.ref s.heap.objs.size) { s with heap:=h' }) :
  wpAny (model P w) A (Builtin.«zip.__next__» ⟨[.ref z],[]⟩) (λfin s'=>∃ v,fin=.done (.ret v)/\Q v s') E s:=by
 show wpAny _ _ (field (.ref z) 2>>=_) _ E s;refine xAc (xCm hz rfl (x:=.bool false) rfl (show wpAny _ _ (field (.ref z) 3>>=_) _ E s from xAc (xCm hz rfl (x:=.ref ti) rfl (xAc (xCu hti rfl ?_)))))
 show wpAny _ _ (Builtin.SmallTypes.ownedTupleIsFree (.ref z)>>=_) _ E s;refine xAc ?_;unfold Builtin.SmallTypes.ownedTupleIsFree;refine xAc (xCm hz rfl (x:=.none) rfl (xAl ?_));simp only[if_true];refine xAc (xHl (xAc (xCm hz rfl (x:=.ref to) rfl (xAc (xDl hz (by simp) λg1 z1 c1=>?_)))));replace z1:IsZip g1 z ti to .ellipsis:=z1;refine xAc ?_;simp only[List.forIn_cons,List.forIn_nil,List.zipIdx_nil,List.zipIdx_cons];refine xAc (xAc (xGm (show wpAny _ _ (Builtin.SmallTypes.nextOf (.ref i1)>>=_) _ _ _ from xAc (S1.one (S1.kp h1 λo e=>c1.extBut _ _ D.i1z e) (S1.bp b1 λo e=>c1.extBut _ _ D.l1z e) hx λg2 h12 c2=>xAl ?_))))
 have t2:IsPair g2 to a b:=c2.extBut _ _ D.TOi1 (c1.extBut _ _ D.TOz hto);refine xAc (xCu t2 rfl (xAc (xFz t2 λg3 t3 c3=>xAc (xEm (xAl ?_)))));replace t3:IsPair g3 to x b:=t3
 refine xAc (xAc (xGm (show wpAny _ _ (Builtin.SmallTypes.nextOf (.ref i2)>>=_) _ _ _ from xAc (S2.one (S2.kp h2 λo e=>c3.extBut _ _ D.TOi2.symm (c2.extBut _ _ D.i12.symm (c1.extBut _ _ D.i2z e)))
  (S2.bp b2 λo e=>c3.extBut _ _ D.l2TO (c2.extBut _ _ D.l2i1 (c1.extBut _ _ D.l2z e))) hy λg4 h24 c4=>xAl ?_))))
 have t4:IsPair g4 to x b:=c4.extBut _ _ D.TOi2 t3;refine xAc (xCu t4 rfl (xAc (xFz t4 λg5 t5 c5=>xAc (xEm (xAl (xAl ?_))))));replace t5:IsPair g5 to x y:=t5;refine xAc (xCu t5 rfl (xAc (wpAny_newTuple ?_)));have sz:g5.objs.size=s.heap.objs.size:=by rw[c5.1,c4.1,c3.1,c2.1,c1.1]
 have z5:IsZip g5 z ti to .ellipsis:=c5.extBut _ _ D.TOz.symm (c4.extBut _ _ D.i2z.symm (c3.extBut _ _ D.TOz.symm (c2.extBut _ _ D.i1z.symm z1)));have k5:∀ c o,c≠z->c≠to->c≠i1->c≠i2->s.heap.get? c=some o->g5.get? c=some o:=λc o n1 n2 n3 n4 e=>c5.extBut _ _ n2 (c4.extBut _ _ n4 (c3.extBut _ _ n2 (c2.extBut _ _ n3 (c1.extBut _ _ n1 e))));have h15:st1 (k+1) g5:=S1.kp h12 λo e=>c5.extBut _ _ D.TOi1.symm (c4.extBut _ _ D.i12 (c3.extBut _ _ D.TOi1.symm e));have h25:st2 (k+1) g5:=S2.kp h24 λo e=>c5.extBut _ _ D.TOi2.symm e;show wpAny _ _ (Builtin.SmallTypes.ownedTupleHandOut (.ref z) (.ref g5.objs.size)>>=_) _ E _;refine xAc ?_;unfold Builtin.SmallTypes.ownedTupleHandOut;have z6:IsZip (g5.push { cls:=.type "tuple",data:=.seq #[x,y] }) z ti to .ellipsis:=xAf _ z5;refine xAc (xDl z6 (by simp) λg7 z7 c7=>xDl (show IsZip g7 z ti to (rawInt g5.objs.size) from z7) (by simp) λg8 z8 c8=>?_)
 replace z8:IsZip g8 z ti to (rawInt g5.objs.size):=z8;have up:∀ c o,c≠z->g5.get? c=some o->g8.get? c=some o:=λc o n e=>c8.extBut _ _ n (c7.extBut _ _ n (xAf _ e));have lz:=xAp z5;have t8:IsPair g8 g5.objs.size x y:=c8.extBut _ _ (xFs lz) (c7.extBut _ _ (xFs lz) (xAq _ rfl));have s8:g8.objs.size=g5.objs.size+1:=by rw[c8.1,c7.1,xDk]
 rw[sz] at z8 t8 s8;refine xAl ⟨_,rfl,?_⟩;show Q (.ref g5.objs.size) _;rw[sz];exact hQ g8 z8 (up _ _ D.TOz t5) (S1.kp h15 λo e=>up _ o D.i1z e) (S2.kp h25 λo e=>up _ o D.i2z e) t8 s8 λc o n1 n2 n3 n4 e=>up c o n1 (k5 c o n1 n2 n3 n4 e)
theorem aLs {Q:Fin->Shared->Prop}(hh:A.handled=none)(S1:Src P w i1 l1 st1 bk1)(S2:Src P w i2 l2 st2 bk2)(D:ZipApart z ti to i1 i2 l1 l2)(hz:IsZip s.heap z ti to .none)(hti:IsPair s.heap ti (.ref i1) (.ref i2))(hto:IsPair s.heap to a b)
  (h1:st1 k s.heap)(h2:st2 k s.heap)(b1:bk1 us s.heap)(b2:bk2 vs s.heap)(he:us[k]?=none\/vs[k]?=none)
  (hE:∀ h' e,(∀ c o,c≠z->c≠to->c≠i1->c≠i2->s.heap.get? c=some o->h'.get? c=some o)->(∃ o,h'.get? e=some o/\o.cls=.type "StopIteration")->E (.ref e) { s with heap:=h' }) :
  wpAny (model P w) A (Builtin.«zip.__next__» ⟨[.ref z],[]⟩) Q E s:=by
 show wpAny _ _ (field (.ref z) 2>>=_) _ E s;refine xAc (xCm hz rfl (x:=.bool false) rfl (show wpAny _ _ (field (.ref z) 3>>=_) _ E s from xAc (xCm hz rfl (x:=.ref ti) rfl (xAc (xCu hti rfl ?_)))))
 show wpAny _ _ (Builtin.SmallTypes.ownedTupleIsFree (.ref z)>>=_) _ E s;refine xAc ?_;unfold Builtin.SmallTypes.ownedTupleIsFree;refine xAc (xCm hz rfl (x:=.none) rfl (xAl ?_));simp only[if_true];refine xAc (xHl (xAc (xCm hz rfl (x:=.ref to) rfl (xAc (xDl hz (by simp) λg1 z1 c1=>?_)))));replace z1:IsZip g1 z ti to .ellipsis:=z1;refine xAc ?_;simp only[List.forIn_cons,List.forIn_nil,List.zipIdx_nil,List.zipIdx_cons];refine xAc (xAc (xGm ?_));show wpAny _ _ (Builtin.SmallTypes.nextOf (.ref i1)>>=_) _ _ _;have h1':=S1.kp h1 λo e=>c1.extBut _ _ D.i1z e;have b1':=S1.bp b1 λo e=>c1.extBut _ _ D.l1z e;cases hx:us[k]? with
 | none=>
  refine xAc (S1.out hh h1' b1' hx λg2 e c2 ⟨oe,ho,hc⟩=>?_);have z2:IsZip g2 z ti to .ellipsis:=c2 _ _ D.i1z.symm z1;have nz:e≠z:=λq=>by rw[q,z2] at ho; cases ho; simp at hc
  exact xDl z2 (by simp) λg3 _ c3=>hE g3 e (λc o n1 _ n3 _ q=>c3.extBut _ _ n1 (c2 _ _ n3 (c1.extBut _ _ n1 q))) ⟨oe,c3.extBut _ _ nz ho,hc⟩
 | some x=>
  have hy:vs[k]?=none:=he.resolve_left λq=>by rw[hx] at q; cases q
  refine xAc (S1.one h1' b1' hx λg2 h12 c2=>xAl ?_);have t2:IsPair g2 to a b:=c2.extBut _ _ D.TOi1 (c1.extBut _ _ D.TOz hto);refine xAc (xCu t2 rfl (xAc (xFz t2 λg3 t3 c3=>xAc (xEm (xAl (xAc (xAc (xGm ?_))))))));show wpAny _ _ (Builtin.SmallTypes.nextOf (.ref i2)>>=_) _ _ _;refine xAc (S2.out hh (S2.kp h2 λo e=>c3.extBut _ _ D.TOi2.symm (c2.extBut _ _ D.i12.symm (c1.extBut _ _ D.i2z e))) (S2.bp b2 λo e=>c3.extBut _ _ D.l2TO (c2.extBut _ _ D.l2i1 (c1.extBut _ _ D.l2z e))) hy λg4 e c4 ⟨oe,ho,hc⟩=>?_);have z4:IsZip g4 z ti to .ellipsis:=c4 _ _ D.i2z.symm (c3.extBut _ _ D.TOz.symm (c2.extBut _ _ D.i1z.symm z1));have nz:e≠z:=λq=>by rw[q,z4] at ho; cases ho; simp at hc
  exact xDl z4 (by simp) λg5 _ c5=>hE g5 e (λc o n1 n2 n3 n4 q=>c5.extBut _ _ n1 (c4 _ _ n4 (c3.extBut _ _ n2 (c2.extBut _ _ n3 (c1.extBut _ _ n1 q))))) ⟨oe,c5.extBut _ _ nz ho,hc⟩
theorem aJy {Q:xOP}(S1:Src P w i1 l1 st1 bk1)(S2:Src P w i2 l2 st2 bk2)(D:ZipApart z ti to i1 i2 l1 l2)(hz:IsZip s.heap z ti to .none)(hti:IsPair s.heap ti (.ref i1) (.ref i2))(hto:IsPair s.heap to a b)
  (h1:st1 k s.heap)(h2:st2 k s.heap)(b1:bk1 us s.heap)(b2:bk2 vs s.heap)(hx:us[k]?=some x)(hy:vs[k]?=some y)
  (hQ:∀ h',IsZip h' z ti to (rawInt s.heap.objs.size)->IsPair h' to x y->st1 (k+1) h'->st2 (k+1) h'->IsPair h' s.heap.objs.size x y->h'.objs.size=s.heap.objs.size+1 ->
   (∀ c o,c≠z->c≠to->c≠i1->c≠i2->s.heap.get? c=some o->h'.get? c=some o)->Q (some (.ref s.heap.objs.size)) { s with heap:=h' }):wpAny (model P w) A (pyNext (.ref z)) Q E s:=by
 have hT:s.TypeIs (.ref z) "zip":=⟨_,hz,rfl⟩;unfold pyNext;exact xAc (xGn (wpAny_callSpecial?_slot (name:=Str.ofString "__next__") hT xEf (xCz xEf hT xIc (aLt S1 S2 D hz hti hto h1 h2 b1 b2 hx hy λh' a1 a2 a3 a4 a5 a6 a7=>xAl (hQ h' a1 a2 a3 a4 a5 a6 a7)) (xHu _))))
theorem aIl {Q:xOP}(hh:A.handled=none)(S1:Src P w i1 l1 st1 bk1)(S2:Src P w i2 l2 st2 bk2)(D:ZipApart z ti to i1 i2 l1 l2)(hz:IsZip s.heap z ti to .none)(hti:IsPair s.heap ti (.ref i1) (.ref i2))(hto:IsPair s.heap to a b)
  (h1:st1 k s.heap)(h2:st2 k s.heap)(b1:bk1 us s.heap)(b2:bk2 vs s.heap)(he:us[k]?=none\/vs[k]?=none)
  (hQ:∀ h',(∀ c o,c≠z->c≠to->c≠i1->c≠i2->s.heap.get? c=some o->h'.get? c=some o)->Q none { s with heap:=h' }):wpAny (model P w) A (pyNext (.ref z)) Q E s:=by
 have hT:s.TypeIs (.ref z) "zip":=⟨_,hz,rfl⟩;unfold pyNext;refine xAc (xGn (wpAny_callSpecial?_slot (name:=Str.ofString "__next__") hT xEf (xCz xEf hT xIc (aLs hh S1 S2 D hz hti hto h1 h2 b1 b2 he λh' e hk ⟨o,ho,hc⟩=>?_) (xHu _))));exact xAc (wpAny_isInstance (T:="StopIteration") (b:=true) ⟨o,ho,hc⟩ isSubtype_stop (xAl (hQ _ hk)))
end
end
end L2
namespace L2
open PySem PySem.Spec PySem.Calls PyProof.Rows PySem.W
abbrev vD (n:String)(l:Addr):Obj:={ cls:=.type n,data:=.fields #[.ref l,.int 0 0] }
abbrev zg2 (h:Heap)(o1 o2:Obj):Heap:=(h.push o1).push o2
abbrev zg3 (h:Heap)(o1 o2:Obj):Heap:=(zg2 h o1 o2).push { cls:=.type "tuple",data:=.seq #[.ref h.objs.size,.ref (h.push o1).objs.size] }
abbrev zg4 (h:Heap)(o1 o2:Obj):Heap:=(zg3 h o1 o2).push { cls:=.type "tuple",data:=.seq #[.none,.none] }
abbrev zg5 (h:Heap)(o1 o2:Obj):Heap:=(zg4 h o1 o2).push { cls:=.type "zip",data:=.fields #[.none,.bool false,.bool false,.ref (zg2 h o1 o2).objs.size,.ref (zg3 h o1 o2).objs.size] }
theorem yI (l t:Addr)(xs ys:Array Value):Meets (Builtin.«zip.__new__» ⟨[.type "zip",.ref l,.ref t],[]⟩) (λ_ R s=>s.heap.IsList l xs/\s.heap.IsTuple t ys /\
  R (.ok (.ret (.ref (zg4 s.heap (vD "list_iterator" l) (vD "tuple_iterator" t)).objs.size))) { s with heap:=zg5 s.heap (vD "list_iterator" l) (vD "tuple_iterator" t) }):=
 .of_wp λprog w A R s h=>by
  obtain⟨hp,g,d,tk,os⟩:=s;obtain⟨h1,h2,h⟩:=h;have hsub:=sub_zip;have j1:Heap.IsList (Shared.heap ⟨hp,g,d,tk,os⟩) l xs:=h1;have j2:Heap.IsTuple (Shared.heap ⟨hp.push { cls:=.type "list_iterator",data:=.fields #[.ref l,.int 0 0] },g,d,tk,os⟩) t ys:=Heap.IsTuple.push h2 _
  wp_walk using xFb j1,wpAny_pyIter_tuple j2
  exact⟨_,rfl,h⟩
section
variable {P:Program}{w:World}{A:Around}{E:xVP}{s:Shared}
theorem zF {l1 l2:Addr}{o1 o2:Obj}{Pre:Shared->Prop}{Q:xVP}(c1:o1.isFreed=false)(c2:o2.isFreed=false)
  (M:Meets (Builtin.«zip.__new__» ⟨[.type "zip",.ref l1,.ref l2],[]⟩) (λ_ R s=>Pre s/\R (.ok (.ret (.ref (zg4 s.heap o1 o2).objs.size))) { s with heap:=zg5 s.heap o1 o2 }))(hp:Pre s)
  (q:∀ h',IsZip h' (s.heap.objs.size+4) (s.heap.objs.size+2) (s.heap.objs.size+3) .none->IsPair h' (s.heap.objs.size+2) (.ref s.heap.objs.size) (.ref (s.heap.objs.size+1))->IsPair h' (s.heap.objs.size+3) .none .none ->
   h'.get? s.heap.objs.size=some o1->h'.get? (s.heap.objs.size+1)=some o2->(∀ c o,s.heap.get? c=some o->h'.get? c=some o)->Q (.ref (s.heap.objs.size+4)) { s with heap:=h' }) :
  wpAny (model P w) A (call (.type "zip") [.ref l1,.ref l2]) Q E s:=by
 refine callType_new PySem.F.called_zip (by decide) (PySem.F.typeCall_zip_2 _ _) (PySem.F.newCall_zip_2 _ _) (λobj=>PySem.F.args_object_init_3 obj _ _) PySem.F.entry_zip_new M ⟨hp,?_⟩;have z1:(s.heap.push o1).objs.size=s.heap.objs.size+1:=xDk ..;have z2:(zg2 s.heap o1 o2).objs.size=s.heap.objs.size+2:=by rw[xDk,z1]
 have z3:(zg3 s.heap o1 o2).objs.size=s.heap.objs.size+3:=by rw[xDk,z2]
 have z4:(zg4 s.heap o1 o2).objs.size=s.heap.objs.size+4:=by rw[xDk,z3]
 have g5:(zg5 s.heap o1 o2).get? (zg4 s.heap o1 o2).objs.size=some _:=xAq _ rfl;have up4:∀ {c o},(zg4 s.heap o1 o2).get? c=some o->(zg5 s.heap o1 o2).get? c=some o:=λe=>xAf _ e;have g4:(zg4 s.heap o1 o2).get? (zg3 s.heap o1 o2).objs.size=some _:=xAq _ rfl;have up3:∀ {c o},(zg3 s.heap o1 o2).get? c=some o->(zg5 s.heap o1 o2).get? c=some o:=λe=>up4 (xAf _ e);have g3:(zg3 s.heap o1 o2).get? (zg2 s.heap o1 o2).objs.size=some _:=xAq _ rfl;have up2:∀ {c o},(zg2 s.heap o1 o2).get? c=some o->(zg5 s.heap o1 o2).get? c=some o:=λe=>up3 (xAf _ e);have g2:(zg2 s.heap o1 o2).get? (s.heap.push o1).objs.size=some o2:=xAq _ c2;have g1:(s.heap.push o1).get? s.heap.objs.size=some o1:=xAq _ c1;have a5:=g5;have a4:=up4 g4;have a3:=up3 g3;have a2:=up2 g2;have a1:=up2 (xAf o2 g1);show _/\_;rw[z2,z3,z4] at a5;rw[z3] at a4;rw[z1,z2] at a3;rw[z1] at a2;rw[z4];exact⟨⟨_,a5,rfl⟩,q _ a5 a3 a4 a1 a2 λc o e=>up2 (xAf _ (xAf _ e))⟩
end
def Itz (R1 R2:Hp->List V->Prop):It:=
 ⟨λi H=>∃ xs ys x y,R1 H xs/\R2 H ys/\xs[i]?=some x/\ys[i]?=some y,
   λi H v H'=>∃ (t:Addr) (x y:V),H t=none/\v=.ref t/\H'=upd H t (.tup [x,y])/\(∀ xs,R1 H xs->xs[i]?=some x)/\∀ ys,R2 H ys->ys[i]?=some y,
   λi H=>∃ xs ys,R1 H xs/\R2 H ys/\(xs.length<=i\/ys.length<=i)⟩
structure Rdz (P:Program)(w:World)(K:Frag)(R:Hp->List V->Prop)(bk:Array Value->Heap->Prop):Prop where
 rd:∀ {X:Cx}{pins:xPn}{s:Shared}{σ:St}{H:Hp}{xs:List V},X.prog=P->X.w=w->X.K=K->Inv X pins σ H s->R H xs->(∃ its:List Value,bU xs its/\bk its.toArray s.heap)/\∀ ys,R H ys->ys=xs
theorem aMh {P:Program}{w:World}{K:Frag}(a:Addr):Rdz P w K (λH xs=>SqL K H a xs) (λus h=>h.IsList a us):=⟨λhP hw hK I h=>by
 subst hP hw hK;obtain⟨its,r,p,_⟩:=I.list h;exact⟨⟨its,r,p.isList⟩,λys hy=>I.list_inj hy h⟩⟩
theorem aQl {P:Program}{w:World}{K:Frag}(a:Addr):Rdz P w K (λH xs=>SqT K H a xs) (λus h=>h.IsTuple a us):=⟨λhP hw hK I h=>by
 subst hP hw hK;obtain⟨its,r,p,_⟩:=I.tuple h;exact⟨⟨its,r,p⟩,λys hy=>I.tuple_inj hy h⟩⟩
theorem aGs {P:Program}{w:World}{K:Frag}{elts:List Expr}{x1:Nat}{tpos:Pos}{z ti to i1 i2 l1 l2:Addr}{st1 st2:Nat->Heap->Prop}{bk1 bk2:Array Value->Heap->Prop}{R1 R2:Hp->List V->Prop}
  (S1:Src P w i1 l1 st1 bk1)(S2:Src P w i2 l2 st2 bk2)(D1:Rdz P w K R1 bk1)(D2:Rdz P w K R2 bk2)(D:ZipApart z ti to i1 i2 l1 l2) :
  zC P w K (.Tuple elts x1 tpos) (Itz R1 R2) [z,ti,to,i1,i2] z (λi h=>IsZip h z ti to .none/\IsPair h ti (.ref i1) (.ref i2)/\(∃ a b,IsPair h to a b)/\st1 i h/\st2 i h) where
 mem:=by simp
 obj:=λi h st b hb=>by
  obtain⟨h1,h2,⟨a,b',h3⟩,h4,h5⟩:=st;obtain⟨o4,v4,e4,d4⟩:=S1.ob h4;obtain⟨o5,v5,e5,d5⟩:=S2.ob h5;simp only[List.mem_cons,List.not_mem_nil,or_false] at hb;rcases hb with rfl | rfl | rfl | rfl | rfl
  ·exact⟨_,h1,λv q=>nomatch q⟩
  ·exact⟨_,h2,λv q=>nomatch q⟩
  ·exact⟨_,h3,λv q=>nomatch q⟩
  ·exact⟨_,e4,λv q=>by rw[d4] at q; cases q⟩
  ·exact⟨_,e5,λv q=>by rw[d5] at q; cases q⟩
 keep:=λi h h' st k=>by
  obtain⟨h1,h2,⟨a,b',h3⟩,h4,h5⟩:=st;exact⟨k z (by simp) _ h1,k ti (by simp) _ h2,⟨a,b',k to (by simp) _ h3⟩,S1.kp h4 (k i1 (by simp)),S2.kp h5 (k i2 (by simp))⟩
 item:=by
  intro X hP hw hK hc i pins s σ H E I hf st hg;obtain⟨xs,ys,x,y,r1,r2,hx,hy⟩:=hg;obtain⟨⟨its,rv,b1⟩,u1⟩:=D1.rd hP hw hK I r1;obtain⟨⟨jts,rw',b2⟩,u2⟩:=D2.rd hP hw hK I r2;subst hP hw hK;obtain⟨ux,hux,rx⟩:=rv.get hx;obtain⟨uy,huy,ry⟩:=rw'.get hy;obtain⟨h1,h2,⟨a,b',h3⟩,h4,h5⟩:=st;have fz:=hf z (by simp);have ft:=hf to (by simp);have f1:=hf i1 (by simp);have f2:=hf i2 (by simp);refine aJy S1 S2 D h1 h2 h3 h4 h5 b1 b2 (x:=ux) (y:=uy) (by simpa using hux) (by simpa using huy) λg1 z1 t1 w1 w2 tu sz hk=>⟨.ref s.heap.objs.size,rfl,wpAny_letOwnedTupleGo_zip z1 λg2 z2 sb=>?_⟩;have hn:H s.heap.objs.size=none:=I.hok.fresh (xAh _);have lt:∀ {c o},s.heap.get? c=some o->c≠s.heap.objs.size:=λe=>xBd (xAp e);obtain⟨o4,v4,e4,d4⟩:=S1.ob h4;obtain⟨o5,v5,e5,d5⟩:=S2.ob h5
  have kp:∀ b o,b∉[z,to,i1,i2]->s.heap.get? b=some o->g2.get? b=some o:=λb o n e=>by
   simp only[List.mem_cons,List.not_mem_nil,or_false,not_or] at n;exact (sb.2 b n.1).trans (hk b o n.1 n.2.1 n.2.2.1 n.2.2.2 e)
  have fch:∀ b∈[z,to,i1,i2],lN X pins H b:=λb hb=>hf b (by
   simp only[List.mem_cons,List.not_mem_nil,or_false] at hb ⊢;rcases hb with h | h | h | h
   ·exact .inl h
   ·exact .inr (.inr (.inl h))
   ·exact .inr (.inr (.inr (.inl h)))
   ·exact .inr (.inr (.inr (.inr h))))
  have nH:∀ b v,H b=some v->b∉[z,to,i1,i2]:=λb v q hb=>by rw[(fch b hb).1] at q; cases q
  have nS:∀ b v,H b=some v->b≠s.heap.objs.size:=λb v q=>aI q hn
  have I2:Inv X pins σ (upd H s.heap.objs.size (.tup [x,y])) { s with heap:=g2 }:=by
   refine I.step (t':=s.toks) (g':=s.gens) (d':=s.drawn) (ch:=[z,to,i1,i2]) (λb hb=>⟨(fch b hb).2.2.2.1,(fch b hb).2.1,(fch b hb).2.2.2.2.1,(fch b hb).2.2.2.2.2⟩) (λb o _ _ hc e _=>kp b o hc e) (λb o _ _ hc e _=>⟨o.slots,kp b o hc e⟩)
    (λb o _ e n=>by rw[aH (lt e)]; exact n) (λb o hc e=>⟨o,kp b o hc e⟩) (λb ys e=>by rw[aH (nS b _ e)]; exact e) (λb o v e=>by rw[aH (nS b _ e)]; exact e)
    (λb ps e=>⟨#[],by rw[aH (nS b _ e),e]; simp⟩) (λm hm=>?_) (λb v q=>?_) I.bare
   ·obtain⟨o,es,ep,ho,r⟩:=hm;exact⟨o,es,ep,kp _ o (λhb=>(fch _ hb).2.1 rfl) ho,r⟩
   ·by_cases hb:b=s.heap.objs.size
    ·subst hb;rw[aD] at q;cases q;exact⟨by show 2<=sizeLine; decide,[ux,uy],.cons rx (.cons ry .nil),⟨_,(sb.2 _ (Ne.symm (lt h1))).trans tu,rfl,_,rfl⟩⟩
    ·rw[aH hb] at q;refine (I.hok b v q).stay (λc y hc e=>kp c y ?_ e) (λc e=>by rw[aH (nS c _ e)]; exact e) λc ys e=>by rw[aH (nS c _ e)]; exact e
     rcases hc with rfl | hc
     ·exact nH c v q
     ·exact nH c _ hc
  refine⟨.ref s.heap.objs.size,_,I2,rfl,⟨s.heap.objs.size,x,y,hn,rfl,rfl,λxs' h'=>by rw[u1 xs' h']; exact hx,λys' h'=>by rw[u2 ys' h']; exact hy⟩,⟨z2,?_,⟨_,_,(sb.2 to D.TOz).trans t1⟩,S1.kp w1 λo e=>(sb.2 i1 D.i1z).trans e,S2.kp w2 λo e=>(sb.2 i2 D.i2z).trans e⟩,λb hb=>?_⟩
  ·exact kp ti _ (by simp only[List.mem_cons,List.not_mem_nil,or_false,not_or]; exact⟨D.TIz,D.TITO,D.TIi1,D.TIi2⟩) h2
  ·have nb:b≠s.heap.objs.size:=by
    simp only[List.mem_cons,List.not_mem_nil,or_false] at hb;rcases hb with rfl | rfl | rfl | rfl | rfl
    ·exact lt h1
    ·exact lt h2
    ·exact lt h3
    ·exact lt e4
    ·exact lt e5
   rw[aH nb];exact (hf b hb).1
 done:=by
  intro X hP hw hK hc i pins s σ H E I hf st hg;obtain⟨xs,ys,r1,r2,hl⟩:=hg;obtain⟨⟨its,rv,b1⟩,_⟩:=D1.rd hP hw hK I r1;obtain⟨⟨jts,rw',b2⟩,_⟩:=D2.rd hP hw hK I r2;subst hP hw hK;obtain⟨h1,h2,⟨a,b',h3⟩,h4,h5⟩:=st;have e1:=rv.length;have e2:=rw'.length
  have he:its.toArray[i]?=none\/jts.toArray[i]?=none:=by
   rcases hl with h | h
   ·exact .inl (by rw[xFw]; exact xCe.mpr (by omega))
   ·exact .inr (by rw[xFw]; exact xCe.mpr (by omega))
  refine aIl (I.ok.hd hc) S1 S2 D h1 h2 h3 h4 h5 b1 b2 he λg hk=>⟨rfl,?_⟩
  have fch:∀ b∈[z,to,i1,i2],lN X pins H b:=λb hb=>hf b (by
   simp only[List.mem_cons,List.not_mem_nil,or_false] at hb ⊢;rcases hb with h | h | h | h
   ·exact .inl h
   ·exact .inr (.inr (.inl h))
   ·exact .inr (.inr (.inr (.inl h)))
   ·exact .inr (.inr (.inr (.inr h))))
  have kp:∀ b o,b∉[z,to,i1,i2]->s.heap.get? b=some o->g.get? b=some o:=λb o n e=>by
   simp only[List.mem_cons,List.not_mem_nil,or_false,not_or] at n;exact hk b o n.1 n.2.1 n.2.2.1 n.2.2.2 e
  have nH:∀ b v,H b=some v->b∉[z,to,i1,i2]:=λb v q hb=>by rw[(fch b hb).1] at q; cases q
  refine I.step (t':=s.toks) (g':=s.gens) (d':=s.drawn) (ch:=[z,to,i1,i2]) (λb hb=>⟨(fch b hb).2.2.2.1,(fch b hb).2.1,(fch b hb).2.2.2.2.1,(fch b hb).2.2.2.2.2⟩) (λb o _ _ hc e _=>kp b o hc e) (λb o _ _ hc e _=>⟨o.slots,kp b o hc e⟩)
   (λb o _ e n=>n) (λb o hc e=>⟨o,kp b o hc e⟩) (λb ys e=>e) (λb o v e=>e) (λb ps e=>⟨#[],by rw[e]; simp⟩) (λm hm=>?_) (λb v q=>?_) I.bare
  ·obtain⟨o,es,ep,ho,r⟩:=hm;exact⟨o,es,ep,kp _ o (λhb=>(fch _ hb).2.1 rfl) ho,r⟩
  ·refine (I.hok b v q).stay (λc y hc e=>kp c y ?_ e) (λc e=>e) λc ys e=>e;rcases hc with rfl | hc
   ·exact nH c v q
   ·exact nH c _ hc
 self:=λ_ i s _ _ ⟨h1,_⟩ h=>wpAny_pyIter_zip h1 h
theorem Bo.zip:bootBuiltins "zip" = some (.type "zip"):=by decide +kernel
section
variable {X:Cx}{elts:List Expr}{x1:Nat}{tpos:Pos}
inductive aTz (K:Frag)(vs:List V)(H1:Hp)(R:It->Hp->Prop):Prop
 | mk (a b:Addr)(h1:vs=[.ref a,.ref b])(h2:∃ xs,SqL K H1 a xs)(h3:∃ ys,SqT K H1 b ys)(r:R (Itz (λH xs=>SqL K H a xs) (λH ys=>SqT K H b ys)) H1)
def aRh (K:Frag)(ta:TA):TI:=λσ H R=>ta σ H λvs H1=>aTz K vs H1 R
theorem aSx {s:Shared}{b:Addr}(hb:b∈[s.heap.objs.size+4,s.heap.objs.size+2,s.heap.objs.size+3,s.heap.objs.size,s.heap.objs.size+1]):s.heap.objs.size<=b:=by
 simp only[List.mem_cons,List.not_mem_nil,or_false] at hb;rcases hb with rfl | rfl | rfl | rfl | rfl
 ·exact xDv ..
 ·exact xDv ..
 ·exact xDv ..
 ·exact xAh _
 ·exact xDv ..
theorem xP {l m:Expr}{ta:TA}{p pos:Pos}(hg:Gl X "zip")(hm:X.mg "zip" = none)(ha:PA X [l,m] ta)(hs:starEach [l,m] X.env=(false,eval l X.env)::starEach [m] X.env:=by rfl)(hpl:(backTo pos (starEach [m] X.env)).any (·.1)=false:=by rfl) :
  PI X (.Tuple elts x1 tpos) (.Call (.Name "zip" p) [l,m] [] pos) (aRh X.K ta):=by
 intro pins s σ H R I h;refine xBz (mV I hg hm Bo.zip ?_ (by decide) (by decide));refine xDp (thn (ha pos pins s σ H _ I h) λus s1 ⟨vs,H1,I1,r1,a,b,e1,⟨xs,hx⟩,⟨ys,hy⟩,q⟩=>?_) hs hpl;subst e1;obtain⟨u,w',rfl,rx,ry⟩:=aGo r1;cases rx;cases ry;obtain⟨its,rv,pl,_⟩:=I1.list hx;obtain⟨jts,rw',pt,_⟩:=I1.tuple hy;have a1:a<s1.heap.objs.size:=let ⟨_,e,_⟩:=pl.isList; xAp e;have a2:b<s1.heap.objs.size:=let ⟨_,e,_⟩:=pt; xAp e;refine zF (Pre:=λs=>s.heap.IsList a its.toArray/\s.heap.IsTuple b jts.toArray) rfl rfl (by simpa only[and_assoc] using yI a b its.toArray jts.toArray) ⟨pl.isList,pt⟩ λh' z1 t1 t2 o1 o2 k=>?_;have I2:Inv X pins σ H1 { s1 with heap:=h' }:=I1.kept (t':=s1.toks) k
 exact wpAny_pyIter_zip z1 ⟨s1.heap.objs.size+4,[s1.heap.objs.size+4,s1.heap.objs.size+2,s1.heap.objs.size+3,s1.heap.objs.size,s1.heap.objs.size+1],_,_,H1,rfl,I2,
  aGs (aGx s1.heap.objs.size a) (aMb (s1.heap.objs.size+1) b) (aMh a) (aQl b) (zipApart_new a1 a2),⟨z1,t1,⟨_,_,t2⟩,⟨_,o1,rfl,rfl⟩,⟨_,o2,rfl,rfl⟩⟩,λc hc=>I1.fpOk (aSx hc) (I1.hok.fresh (aSx hc)),q⟩
theorem aDu {R1 R2:Hp->List V->Prop}{D:Addr}{xs ys:List V}{g:TG}{tc:TT}{te:TE}{R:Hp->Prop}{σ:St}{H:Hp}(Pv:Nat->St->Hp->Prop)(h0:Pv 0 σ H)(hxy:xs.length=ys.length)
  (hl:∀ i σ H,i<=xs.length->Pv i σ H->R1 H xs/\R2 H ys)
  (hs:∀ i x y σ H t,xs[i]?=some x->ys[i]?=some y->Pv i σ H->H t=none->g (.ref t) σ (upd H t (.tup [x,y])) λσ2 H2=>tc σ2 H2 λb H3=>if b=true then te σ2 H3 λy H4=>∃ ys,H4 D=some (.lst ys)/\ys.length<sizeLine/\Pv (i+1) σ2 (upd H4 D (.lst (ys++[y]))) else Pv (i+1) σ2 H3)
  (hd:∀ σ H,Pv xs.length σ H->R H):xA (Itz R1 R2) D g tc te R σ H:=by
 refine⟨λi m σ H=>m=xs.length-i/\i<=xs.length/\Pv i σ H,⟨xs.length,by simp,xBu _,h0⟩,?_⟩;rintro i m σ H ⟨rfl,hi,p⟩;obtain⟨q1,q2⟩:=hl i σ H hi p
 by_cases hlt:i<xs.length
 ·refine .inr ⟨⟨xs,ys,xs[i],ys[i]'(by omega),q1,q2,by simp[hlt],by simp⟩,Pv (i+1),λσ' H' p'=>⟨xs.length-(i+1),by omega,rfl,hlt,p'⟩,λv H' z=>?_⟩;obtain⟨t,x,y,ht,rfl,rfl,hx,hy⟩:=z;exact hs i x y σ H t (hx xs q1) (hy ys q2) p ht
 ·have e:i=xs.length:=by omega
  subst e;exact .inl ⟨⟨xs,ys,q1,q2,.inl (xAh _)⟩,hd σ H p⟩
end
section
variable {X:Cx}
inductive aWe (K:Frag)(x y:V)(H:Hp)(Q:VK):Prop
 | mk (a:Addr)(os:List (Option Str))(h0_:x=.non)(h1_:y=.ref a)(h2_:SqL K H a (os.map λo=>(o.map V.str).getD .non))(h3_:Q (.bl (os.any λo=>o.isNone)) H)
theorem wV {us:List Value}:∀ {os:List (Option Str)},bU (os.map λo=>(o.map V.str).getD .non) us->us.any (λv=>v==.none)=os.any λo=>o.isNone
 | [],r=>by cases r; rfl
 | o::os,r=>by
  cases r with
  | cons r1 r2=>
   rw[xEc,xEc,wV r2];cases o with
   | none=>cases r1; rfl
   | some z=>obtain⟨t,rfl⟩:=r1; rfl
theorem aQs:OpR X (compareOp .In) (aWe X.K):=by
 intro pins s σ H x y v u Q I rx ry h;obtain⟨a,os,rfl,rfl,ha,q⟩:=h;cases rx;cases ry;obtain⟨us,r1,p1,_⟩:=I.list ha;refine SeqAt.in_listAt (λy=>y==.none) p1.isList (λy hy=>?_) ⟨.bl (os.any λo=>o.isNone),H,I,?_,q⟩
 ·obtain⟨i,hi⟩:=xGe (show y∈us by simpa using hy);have l1:=r1.length;have li:i<us.length:=(xAd.mp hi).1;rw[xAa] at l1;have hoi:os[i]?=some os[i]:=xAi (by omega);obtain⟨u',e',ru⟩:=r1.get (i:=i) (x:=(os[i].map V.str).getD .non) (by rw[xAj,hoi]; rfl);rw[hi] at e';cases e';cases ho:os[i] with
  | none=>rw[ho] at ru; cases ru; exact SeqAt.EqAt.same _
  | some z=>
   rw[ho] at ru;obtain⟨t,rfl⟩:=ru;exact SeqAt.EqAt.str_none z t
 ·show Value.bool _=Value.bool _;rw[<- wV r1]
  simp
section
variable {prog:Program}{w:World}{A:Around}{E:xVP}{s:Shared}
end
end
section
variable {P:Program}{w:World}{A:Around}{R:Result->Shared->Prop}
end
section
variable {X:Cx}
end
section
variable {X:Cx}
end
def Kp (fr fr':List Addr)(H H':Hp)(h h':Heap):Prop:=∀ b o,h.get? b=some o->H b=none->b∉fr->h'.get? b=some o/\H' b=none/\b∉fr'
theorem Kp.trans {f1 f2 f3:List Addr}{H1 H2 H3:Hp}{h1 h2 h3:Heap}(a:Kp f1 f2 H1 H2 h1 h2)(b:Kp f2 f3 H2 H3 h2 h3):Kp f1 f3 H1 H3 h1 h3:=λc o e n f=>let ⟨x,y,z⟩:=a c o e n f; b c o x y z
structure nC (P:Program)(w:World)(K:Frag)(mg:xSO)(base:Heap)(k:Nat)(f:Addr)(sp:Sp)(outer:List Env)(s:Shared)(H:Hp):Prop where
 run:∀ (A:Around) (outer':List Env) (s':Shared) (H':Hp) (us:List Value) (vs:List V) (Q:VK) (E:XK),bY k A->pR P w K mg base A outer' s' H'->Kp (frs outer) (frs outer') H H' s.heap s'.heap->bU vs us->sp vs H' Q E ->
  codeAny (model P w) A (.call (.ref f) ⟨us,[]⟩) (CR (CXE P w) outer' P w H' s' Q E) s'
 fn:∀ (outer':List Env) (s':Shared) (H':Hp),Kp (frs outer) (frs outer') H H' s.heap s'.heap->FnAt f s'.heap
theorem nC.later {P:Program}{w:World}{K:Frag}{mg:xSO}{base:Heap}{k:Nat}{f:Addr}{sp:Sp}{outer outer':List Env}{s s':Shared}{H H':Hp}(h:nC P w K mg base k f sp outer s H)
  (kp:Kp (frs outer) (frs outer') H H' s.heap s'.heap):nC P w K mg base k f sp outer' s' H':=
 ⟨λA o2 s2 H2 us vs Q E hr e0 k2=>h.run A o2 s2 H2 us vs Q E hr e0 (kp.trans k2),λo2 s2 H2 k2=>h.fn o2 s2 H2 (kp.trans k2)⟩
section
variable {P:Program}{w:World}{K:Frag}{mg:xSO}{base:Heap}
theorem aPe {CX:CXT}{N:List Str}{qual:Str}{scope:Scope}{f:Addr}{cd:Value}{A:Around}{outer:List Env}{s s':Shared}{H H':Hp}{E:XK}{pins:xPn}{σ:St}(I:Inv (jJ CX P w K mg base N qual scope f cd A outer s H E) pins σ H' s') :
  Kp (frs outer) (frs (jJ CX P w K mg base N qual scope f cd A outer s H E).stack) H H' s.heap s'.heap:=λb o e n hb=>
 ⟨I.base.keep b o e n hb (by show b∉([]:List Addr); simp),I.base.free b o e n (by show b∉([]:List Addr); simp),λz=>by
  rcases xAk.mp (show b∈s.heap.objs.size::frs outer from z) with z | z
  ·exact xAu (xAp e) (by rw[z]; exact xDi _)
  ·exact hb z⟩
abbrev SpS:=List Env->Shared->List V->Hp->VK->XK->Prop
structure tK (P:Program)(w:World)(K:Frag)(mg:xSO)(base:Heap)(k:Nat)(f:Addr)(fd:FuncData)(ps:List Str)(sp:SpS):Prop where
 len:∀ o s vs H Q E,sp o s vs H Q E->vs.length=ps.length
 run:∀ (A:Around) (outer:List Env) (s:Shared) (H:Hp) (args:Args) (us:List Value) (vs:List V) (Q:VK) (E:XK),bY k A->pR P w K mg base A outer s H->BindsTo s fd args (ps.zip us)->bU vs us->sp outer s vs H Q E ->
  codeAny (model P w) A (.call (.ref f) args) (CR (CXE P w) outer P w H s Q E) s
theorem okS {x qual:Str}{st:Stmt}{f:Addr}{fd:FuncData}{N ps:List Str}{k:Nat}{sp:SpS}(F:Fun K x qual st f fd)(S:aO N ps (aA st))(len:∀ o s vs H Q E,sp o s vs H Q E->vs.length=ps.length)
  (hbody:∀ (cdv:Value) (A:Around) (outer:List Env) (s:Shared) (H:Hp) (vs:List V) (Q:VK) (E:XK),bY k (A.deeper (envOfC qual (aA st) s.heap.objs.size f cdv))->sp outer s vs H Q E ->
   (jJ (CXE P w) P w K mg base N qual (aA st) f cdv A outer s H E).Body E ->
   ∃ t,PSs (jJ (CXE P w) P w K mg base N qual (aA st) f cdv A outer s H E) (aF st) t/\t { nx:=λ_ H'=>Q .non H',rt:=Q } (gM N vs) H):tK P w K mg base (k+1) f fd ps sp:=
 ⟨len,λA outer s H args us vs Q E hr e0 hb hv hs=>aRj F S hr e0 hb (len _ _ _ _ _ _ hs) hv λcdv hr2=>hbody cdv A outer s H vs Q E hr2 hs qV⟩
end
section
variable {X:Cx}
theorem tF {pins:xPn}{σ:St}{H:Hp}{s:Shared}{Q:VK}{E:XK}{f:Addr}{us:List Value}(I:Inv X pins σ H s)(hx:eN (CXE X.prog X.w) X E)
  (hc:codeAny (model X.prog X.w) X.A (.call (.ref f) ⟨us,[]⟩) (CR (CXE X.prog X.w) X.stack X.prog X.w H s Q E) s):wpAny (model X.prog X.w) X.A (call (.ref f) us) (EP X pins σ Q) X.xe s:=by
 refine xFc (xDx hc λr s' hq'=>?_);cases r with
 | error e=>exact hx pins σ H s e s' I hq'
 | ok fl=>
  cases fl with
  | ret u=>exact I.after hq'
  | next=>exact False.elim hq'
  | brk=>exact False.elim hq'
  | cont=>exact False.elim hq'
inductive aLw (i:Nat)(f:Addr)(sp:Sp)(E:XK)(te:TE)(σ:St)(H:Hp)(Q:VK):Prop
 | mk (h0_:σ[i]?=some (some (.ref f)))(h1_:te σ H λv H1=>sp [v] H1 Q E)
theorem aEl {x:Str}{p pos:Pos}{i k:Nat}{f:Addr}{sp:Sp}{E:XK}{e:Expr}{te:TE}(hN:X.N[i]?=some x)(hv:X.env.scope.names.lookup x=some .local)(hx:eN (CXE X.prog X.w) X E)(hr:bY k X.A)
  (hd:∀ pins σ H s,Inv X pins σ H s->nC X.prog X.w X.K X.mg X.base k f sp X.stack s H)(he:PE X e te)(hp:kX e=false:=by rfl)(h1:(x==("__debug__" : Str))=false:=by decide)(h2:(x==("__classdict__" : Str))=false:=by decide) :
  PE X (.Call (.Name x p) [e] [] pos) (aLw i f sp E te):=by
 intro pins s σ H Q I h;obtain⟨h0,h3⟩:=h;refine xBz (thn (vW hN (.inl hv) h1 h2 pins s σ H (λv H'=>v=.ref f/\H'=H) I ⟨_,h0,rfl,rfl⟩) λu s1 h4=>?_);obtain⟨v,H',I1,r1,rfl,rfl⟩:=h4;cases r1;have kr:∀ {s2:Shared}{H2:Hp},Kp (frs X.stack) (frs X.stack) H2 H2 s2.heap s2.heap:=λb o e n hb=>⟨e,n,hb⟩;refine callWith_F ((hd _ _ _ _ I1).fn _ s1 H' kr) (thn ((pac he aE hp:PA X [e] _) pos pins s1 σ H' (λvs H1=>sp vs H1 Q E) I1 h3) λus s2 ⟨vs,H2,I2,r,q⟩=>⟨(hd _ _ _ _ I2).fn _ s2 H2 kr,?_⟩) (cK hp) rfl;exact tF I2 hx ((hd _ _ _ _ I2).run X.A X.stack s2 H2 us vs Q E hr I2.env0 kr r q)
end
structure aLp (scope:Scope)(x:Str)(NL:List Str):Prop where
 kind:scope.kind=.function
 co:scope.isCoroutine=false
 gen:scope.isGenerator=false
 cell:∀ x∈scope.names,x.2≠.cell
 loc:scope.names.lookup x=some .local
 nl:∀ x∈NL,scope.names.lookup x=some .free
def aNu (P:Program)(w:World)(K:Frag)(mg:xSO)(base:Heap)(A:Around)(outer:List Env)(q:Str)(scope:Scope)(f c':Addr)(cl:List (Str×Addr))(s:Shared)(H:Hp)(N:List Str)(E:XK):Cx where
 prog:=P
 w:=w
 K:=K
 mg:=mg
 base:=base
 A:=A.deeper (envX q scope s.heap.objs.size f (.ref c') cl)
 N:=N
 s₀:=s
 H₀:=H
 env:=envX q scope s.heap.objs.size f (.ref c') cl
 outer:=outer
 stack:=envX q scope s.heap.objs.size f (.ref c') cl::outer
 ex:=[]
 fn:=λ_=>false
 calm:=true
 pn:=[]
 xe:=λe s'=>wpAny (model P w) (A.deeper (envX q scope s.heap.objs.size f (.ref c') cl)) (leaving (envX q scope s.heap.objs.size f (.ref c') cl) e) (λ_ s''=>CXE P w outer H s E e s'') (λe' s''=>CXE P w outer H s E e' s'') s'
section
variable {P:Program}{w:World}{K:Frag}{mg:xSO}{base:Heap}{A:Around}{outer:List Env}{q:Str}{scope:Scope}{f c':Addr}{cl:List (Str×Addr)}{H:Hp}{s:Shared}{NL:List Str}{E:XK}
theorem aKj {σL:St}{k:Nat}{params:Arguments}{body:Expr}{te:TE}{Q:VK}{x:Str}{v:V}{u:Value}(e0:pR P w K mg base A outer s H)(L:zD s.heap H (frs outer) f c' q params body scope cl NL σL)(S:aLp scope x NL)(hc:∀ x,scope.names.lookup x=some .free->∃ a,cl.lookup x=some a)(hr:bY (k+1) A)
  (hba:∀ pm ctv,bindArgs (kla_fn "<lambda>" q params body scope cl pm (.ref c') ctv) ⟨[u],[]⟩=pure [(x,u)])(rv:cC v u)(hb:PE (aNu P w K mg base A outer q scope f c' cl s H (x::NL) E) body te)(hq:te (some v::σL) H Q) :
  codeAny (model P w) A (.call (.ref f) ⟨[u],[]⟩) (CR (CXE P w) outer P w H s Q E) s:=by
 obtain⟨pm,ctv,ho⟩:=L.fn;obtain⟨⟨oc,vs,t,e1,e2,e3⟩,_,_⟩:=(show dA P w H s.heap c' (.ext (gB c' q)) from e0.hok c' _ L.code)
 refine kla_callFunE hr.depth ho rfl S.co S.gen rfl ⟨c',oc,vs,t,rfl,e1,e2,e3⟩ ?_;rw[hba];refine xAl (wpAny_newFunctionEnv S.cell (by intro y hy; rw[xAg.mp hy]; exact S.loc) (λh₁ hns hsb=>?_) S.kind);have hk:∀ b o,s.heap.get? b=some o->h₁.get? b=some o:=λb o e=>hsb.extBut b o (xBd (xAp e)) (xAf _ e);have lim:s.heap.NoLimit:=e0.mod.nolimit.keeps λb o e=>(e0.bs b o e).1;refine⟨lim.keeps hk,?_⟩;have kc:∀ a v,s.heap.IsCell a v->h₁.IsCell a v:=λa v ⟨o,h1,h2⟩=>⟨o,hk a o h1,h2⟩
 have J:Inv (aNu P w K mg base A outer q scope f c' cl s H (x::NL) E) [] (some v::σL) H { s with heap:=h₁,toks:=s.toks+([(x,u)]:List (Str×Value)).length }:=by
  refine⟨⟨e0.mod,S.kind,rfl,rfl,xAh _,L.inj,λx hx=>?_,λx c z _=>xAu z (by show ¬ false=true; decide),λ_=>hr.hd,Around.frames_deeper e0.frames,.inr ⟨rfl,rfl⟩,λb z=>xAu (show b∈([]:List Addr) from z) (by simp),e0.bs,e0.bsz,
   λb _ _ z=>xAu (show b∈([]:List Addr) from z) (by simp),λb z=>xAu (show b∈([]:List Addr) from z) (by simp),e0.funs,e0.frf⟩,
   rfl,e0.bare,Un.kept hk,⟨_,hns,λi y v' h1 h2 h3=>?_⟩,λx c e=>?_,e0.hok.fresh (xAh _),λx c e=>(L.cell x c e).2.1,λp hp=>xAu (show p∈([]:xPn) from hp) (by simp),e0.hok.kept hk,by show (some v::σL).length=(x::NL).length; rw[xBf,xBf,L.len]⟩
  ·have hx:scope.names.lookup x=some .cell\/scope.names.lookup x=some .free:=hx;rcases hx with hx | hx
   ·exact xAu rfl (S.cell _ (PySem.mem_of_lookup hx))
   ·exact hc x hx
  ·cases i with
   | zero=>
    have h1:(x::NL)[0]?=some y:=h1;cases h1;cases h2;exact⟨u,rv,.inl ⟨S.loc,by simp⟩⟩
   | succ i=>
    have h1:NL[i]?=some y:=by simpa using (show (x::NL)[i+1]?=some y from h1)
    obtain⟨a,u',hx,r,hc'⟩:=L.val i y v' h1 (by simpa using h2);exact⟨u',r,.inr ⟨.inr (S.nl y (xBe h1)),a,hx,kc a _ hc'⟩⟩
  ·obtain⟨⟨v,hv⟩,_⟩:=L.cell x c e;exact⟨v,kc c v hv⟩
 show codeAny _ _ (.expr body (envX q scope s.heap.objs.size f (.ref c') cl)) _ _;refine kla_codeExpr (xCj (hb [] _ _ H Q J hq) (λv s' ⟨x,H',J',r,q'⟩=>?_) λe s' h=>h);exact⟨x,H',J'.os,J'.bare,J'.base,J'.hok,r,q'⟩
end
theorem zD.kp {h h':Heap}{H H':Hp}{fr fr':List Addr}{f c':Addr}{q:Str}{params:Arguments}{body:Expr}{scope:Scope}{cl:List (Str×Addr)}{NL:List Str}{σL:St}(L:zD h H fr f c' q params body scope cl NL σL)
  (k:Kp fr fr' H H' h h')(hc:H' c'=some (.ext (gB c' q))):zD h' H' fr' f c' q params body scope cl NL σL:=by
 obtain⟨pm,ctv,e⟩:=L.fn;obtain⟨k1,k2,k3⟩:=k _ _ e L.fH L.ff;have kc:∀ x a,cl.lookup x=some a->∀ v,h.IsCell a v->h'.IsCell a v:=λx a hx v ⟨o,ho,hd⟩=>⟨o,(k a o ho (L.cell x a hx).2.1 (L.cell x a hx).2.2).1,hd⟩;refine⟨⟨pm,ctv,k1⟩,k2,k3,hc,L.inj,λx a hx=>?_,λi x v h1 h2=>?_,L.len⟩
 ·obtain⟨⟨v,hv⟩,h1,h2⟩:=L.cell x a hx;obtain⟨o,ho,_⟩:=id hv;exact⟨⟨v,kc x a hx v hv⟩,(k a o ho h1 h2).2.1,(k a o ho h1 h2).2.2⟩
 ·obtain⟨a,u,hx,r,hc⟩:=L.val i x v h1 h2;exact⟨a,u,hx,r,kc x a hx _ hc⟩
inductive aHb (c':Addr)(q:Str)(te:XK->TE)(σL:St)(vs:List V)(H:Hp)(Q:VK)(E:XK):Prop
 | mk (v:V)(h0_:vs=[v])(h1_:H c'=some (.ext (gB c' q)))(h2_:te E (some v::σL) H Q)
inductive SpH (P:Program)(w:World)(K:Frag)(mg:xSO)(base:Heap)(kd:Nat)(spC:Addr->Sp->Sp)(outer:List Env)(s:Shared)(vs:List V)(H:Hp)(Q:VK)(E:XK):Prop
 | mk (df:Addr)(spD:Sp)(h0_:nC P w K mg base kd df spD outer s H)(h1_:spC df spD vs H Q E)
inductive aLq (P:Addr)(pos:Pos)(q:Str)(R:Addr->Hp->Prop)(H:Hp):Prop
 | made (ps:_) (h0_:H P=some (.tbl ps)) (h1_:TriplesOk ps.toList) (h2_:codeAmong pos ps.toList=none) (h3_:∀ c' H1,H c'=none->c'≠P->H1=upd (upd H P (.tbl (ps++#[rawInt pos.line,rawInt pos.col,.ref c']))) c' (.ext (gB c' q))->R c' H1)
 | hit (ps:_) (c':Addr) (h0_:H P=some (.tbl ps)) (h1_:TriplesOk ps.toList) (h2_:codeAmong pos ps.toList=some (.ref c')) (h3_:H c'=some (.ext (gB c' q))) (h4_:R c' H)
def aSa (P:Addr)(pos:Pos)(q:Str)(spC:Addr->Sp->Sp)(js:List Nat)(te:XK->TE)(t1:TE)(v3:V)(E:XK):TE:=λσ H Q=>t1 σ H λv1 H1=>aLq P pos q (λc' H2=>∀ f,spC f (aHb c' q te (dZ 0 js σ)) [v1,.ref f,v3] H2 Q E) H1
section
variable {X:Cx}
theorem aMq {f c P:Addr}{fd:FuncData}{ps:List Str}{g y x:Str}{params:Arguments}{body e1:Expr}{scope:Scope}{lpos p p3 pos:Pos}{NL:List Str}{js:List Nat}{te:XK->TE}{t1:TE}{v3:V}{u3:Value}{k kd:Nat}{spC:Addr->Sp->Sp}{E:XK}
  (F:tK X.prog X.w X.K X.mg X.base k f fd ps (SpH X.prog X.w X.K X.mg X.base (kd+1) spC))(hr:bY k X.A)(hg:Gl X g)(hm:X.mg g=some (.ref f))(hk:keepIn X.K (.ref f)=true)(hbi:aS X.K fd ps [])(hx:eN (CXE X.prog X.w) X E)
  (hfn:∀ x,X.fn x=true)(hcode:X.env.code=.ref c)(hcd:codeHdIn X.K c P=true)(bm:oP X.mg X.base)
  (S:aLp scope x NL)(B:jL X scope NL 0 js)(hdef:defaultsOf params X.env=([],[]))(hba:∀ cl pm c' ctv u,bindArgs (kla_fn "<lambda>" (X.env.qual++"<lambda>") params body scope cl pm (.ref c') ctv) ⟨[u],[]⟩=pure [(x,u)])
  (hb:∀ (Ew:XK) A outer f c' cl s' H',bY kd (aNu X.prog X.w X.K X.mg X.base A outer (X.env.qual++"<lambda>") scope f c' cl s' H' (x::NL) Ew).A ->
   PE (aNu X.prog X.w X.K X.mg X.base A outer (X.env.qual++"<lambda>") scope f c' cl s' H' (x::NL) Ew) body (te Ew))
  (h1:PE X e1 t1)(hg3:Gl X y)(hm3:X.mg y=some u3)(r3:cC v3 u3)(hs1:kX e1=false:=by rfl)(hdb:(g==("__debug__" : Str))=false:=by decide)(hdb3:(y==("__debug__" : Str))=false:=by decide) :
  PE X (.Call (.Name g p) [e1,.Lambda params body scope lpos,.Name y p3] [] pos) (aSa P lpos (X.env.qual++"<lambda>") spC js te t1 v3 E):=by
 intro pins s0 σ H0 Q I0 h;refine xBz (fV I0 hg hm ?_ hdb);refine callWith_K (h₀:=X.base) I0.ok.mod.kin hk ?_ (cK hs1) rfl;rw[cK hs1,cK rfl,cK rfl];show wpAny _ _ (spliced ((false,eval e1 X.env)::(false,eval (.Lambda params body scope lpos) X.env)::(false,eval (.Name y p3) X.env)::backTo pos (starEach [] X.env))) _ _ s0;refine xDm (thn (h1 pins s0 σ H0 _ I0 h) λu1 s ⟨v1,H,I,r1,hq⟩=>?_)
 have fin:∀ (fl c':Addr) (H1:Hp) (s1:Shared) (pm ctv:Value),Inv X pins σ H1 s1->(∀ f,spC f (aHb c' (X.env.qual++"<lambda>") te (dZ 0 js σ)) [v1,.ref f,v3] H1 Q E)->s.heap.objs.size<=fl->H1 fl=none->H1 c'=some (.ext (gB c' (X.env.qual++"<lambda>"))) ->
   (∀ b o,s.heap.get? b=some o->H b=none->s1.heap.get? b=some o/\H1 b=none)->s1.heap.get? fl=some (kla_obj "<lambda>" (X.env.qual++"<lambda>") params body scope (gA scope X.env) pm c' ctv) ->
   wpAny (model X.prog X.w) X.A (spliced ((false,eval (.Name y p3) X.env)::backTo pos (starEach [] X.env))) (λvs s₁=>X.K.In s₁.heap/\wpAny (model X.prog X.w) X.A (call (.ref f) ([]++([u1]++([Value.ref fl]++vs)))) (EP X pins σ Q) X.xe s₁) X.xe s1:=by
  intro fl c' H1 s1 pm ctv I1 hsp hsf hfH hcx hold hfo;refine xDm (fV I1 hg3 hm3 ?_ hdb3);refine xGx ⟨I1.kIn,?_⟩;have hcl:∀ n∈eA scope,∃ a,X.env.cells.lookup n=some a:=λn hn=>I.ok.has n (B.cel n hn);have cl1:∀ x a,(gA scope X.env).lookup x=some a->X.env.cells.lookup x=some a:=lG (eA scope) [] hcl λx a e=>by simp at e
  have hfree:∀ x,scope.names.lookup x=some .free->x∈eA scope:=λx e=>xAo.mpr ⟨(x,.free),xCd.mpr ⟨PySem.mem_of_lookup e,by simp⟩,rfl⟩
  have stkLt:∀ b∈frs X.stack,b<s.heap.objs.size:=λb hb=>by
   obtain⟨_,o,ho,_⟩:=I.stack.mem hb;exact xAp ho
  have hcell:∀ x a,X.env.cells.lookup x=some a->a∉frs X.stack:=λx a e z=>by
   rcases xAk.mp (I.stkSub a z) with z | z
   ·exact I.cne x a e z
   ·obtain⟨_,o,ho,_⟩:=I.ok.funs.mem z;exact xAu (xAy (xAp ho) (I.ok.cab x a (hfn x) e)) (xDi _)
  have L1:zD s1.heap H1 (frs X.stack) fl c' (X.env.qual++"<lambda>") params body scope (gA scope X.env) NL (dZ 0 js σ):=by
   refine⟨⟨pm,ctv,hfo⟩,hfH,λz=>xAu (xAy (stkLt fl z) hsf) (xDi _),hcx,λx y a e1 e2=>I.ok.inj x y a (cl1 x a e1) (cl1 y a e2),λx a e=>?_,λi x v e1 e2=>?_,?_⟩
   ·have e':=cl1 x a e;obtain⟨v,o,ho,hd⟩:=I.cell x a e';obtain⟨k1,k2⟩:=hold a o ho (I.freeC x a e');exact⟨⟨v,o,k1,hd⟩,k2,hcell x a e'⟩
   ·unfold dZ at e2;rw[List.replicate_zero,xHe,xAj] at e2;cases hj:js[i]? with
    | none=>rw[hj] at e2; cases e2
    | some j=>
     rw[hj] at e2;have e2:some ((σ[j]?).join)=some (some v):=e2
     have e3:σ[j]?=some (some v):=by
      cases z:σ[j]? with
      | none=>rw[z] at e2; cases e2
      | some y=>rw[z] at e2; cases y with
       | none=>cases e2
       | some y=>cases e2; rfl
     have e4:X.N[j]?=some x:=by rw[B.at' i j hj,Nat.zero_add]; exact e1
     obtain⟨hfr,_⟩:=B.fre i x (xBu _) e1;have kx:=B.cel x hfr;obtain⟨m,hm,hl⟩:=I.loc;obtain⟨u,r,l⟩:=hl j x v e4 e3 (by rcases kx with z | z; exact .inr (.inl z); exact .inr (.inr z));rcases l with⟨kk,_⟩ | ⟨kk,a,ea,o,ho,hd⟩
     ·rcases kx with k' | k' <;> rw[kk] at k' <;> cases k'
     ·obtain⟨a',ha'⟩:=lH (env:=X.env) (eA scope) [] x (.inl hfr)
      have:=cl1 x a' ha'
      rw[ea] at this;cases this;exact⟨a,u,ha',r,o,(hold a o ho (I.freeC x a ea)).1,hd⟩
   ·unfold dZ;rw[List.replicate_zero,xHe,xAa,B.len,Nat.zero_add]
  have hc:∀ x,scope.names.lookup x=some .free->∃ a,(gA scope X.env).lookup x=some a:=λx e=>lH (env:=X.env) (eA scope) [] x (.inl (hfree x e))
  have hd:nC X.prog X.w X.K X.mg X.base (kd+1) fl (aHb c' (X.env.qual++"<lambda>") te (dZ 0 js σ)) X.stack s1 H1:=by
   refine⟨λA outer' s' H' us vs Q' E' hr' e0 kp hv hsl=>?_,λouter' s' H' kp=>?_⟩
   ·obtain⟨v,rfl,hc',hte⟩:=hsl;obtain⟨u,rfl,rv⟩:=kH hv;exact aKj (k:=kd) (E:=E') e0 (L1.kp kp hc') S hc hr' (λpm ctv=>hba _ pm c' ctv u) rv (hb E' A outer' fl c' _ s' H' (hr'.deeper _)) hte
   ·exact⟨_,_,_,_,(kp _ _ hfo L1.fH L1.ff).1⟩
  have sp1:SpH X.prog X.w X.K X.mg X.base (kd+1) spC X.stack s1 [v1,.ref fl,v3] H1 Q E:=⟨fl,_,hd,hsp fl⟩;have hl:[u1,.ref fl,u3].length=ps.length:=F.len _ _ _ _ _ _ sp1
  have bt:BindsTo s1 fd ⟨[u1,.ref fl,u3],[]⟩ (ps.zip [u1,.ref fl,u3]):=by
   have:=hbi s1 [u1,.ref fl,u3] I1.kIn (by rw[xBk]; exact hl)
   rw[xBk] at this;exact this
  exact tF I1 hx (F.run X.A X.stack s1 H1 _ _ _ Q E hr I1.env0 bt (.cons r1 (.cons (show cC (.ref fl) (.ref fl) from rfl) (.cons r3 .nil))) sp1)
 cases hq with
 | made ps hP ht hnf hte=>
  refine xDm (aKk I hcode hcd bm hP ht hnf hdef B.cel λfl c' pm ctv s1 I1 hc0 hcP hcf hcs hold hfo=>?_);have hPs:P<s.heap.objs.size:=I.hok.lt hP;have hsf:s.heap.objs.size<=fl:=xAs hcs (xEg hcf);refine fin fl c' _ s1 pm ctv I1 (hte c' _ hc0 hcP rfl) hsf ?_ aD (λb o e n=>?_) hfo
  ·rw[aH (xFs hcf),aH (xFs (xAy hPs hsf))];exact I.hok.fresh hsf
  ·have nP:b≠P:=λz=>by rw[z,hP] at n; cases n
   exact⟨hold b o nP e,by rw[aH (xBd (xAy (xAp e) hcs)),aH nP]; exact n⟩
 | hit ps c' hP ht hf hcx hR=>
  refine xDm (aNf I hcode hcd bm hP ht hf hdef B.cel λfl pm ctv s1 I1 hsf hold hfo=>?_);exact fin fl c' H s1 pm ctv I1 hR hsf (I.hok.fresh hsf) hcx (λb o e n=>⟨hold b o e,n⟩) hfo
end
def mO (d:Addr)(es:Array DictEntry)(ep:Nat)(h:Heap):Prop:=∃ o,h.get? d=some o/\o.ExactDict/\o.data=.dict es ep
section
variable {prog:Program}{w:World}{A:Around}{E:xVP}{s:Shared}{d:Addr}{es:Array DictEntry}{ep:Nat}
theorem mO.ty (x:mO d es ep s.heap):s.TypeIs (.ref d) "dict":=let ⟨o,a,b,_⟩:=x; ⟨o,a,b.1⟩
theorem mO.to {h h':Heap}(x:mO d es ep h)(k:∀ o,h.get? d=some o->h'.get? d=some o):mO d es ep h':=let ⟨o,a,b⟩:=x; ⟨o,k o a,b⟩
theorem yS {Q:xVP}(lo:(d==sysModules)=false)(x:mO d es ep s.heap)
  (q:Q (.ref s.heap.objs.size) { s with heap:=s.heap.push { cls:=.type "dict_keyiterator",data:=.fields #[.ref d,.int 0 0,.int es.size 0,.int ep 0] } }):wpAny (model prog w) A (pyIter (.ref d)) Q E s:=by
 obtain⟨od,e1,e2,e3⟩:=id x;refine wpAny_pyIter_slot x.ty F.slot_dict_iter (xCz F.slot_dict_iter x.ty F.entry_dict_iter ?_ (F.args_dict_iter_1 _)); unfold Builtin.«dict.__iter__»; refine xAc ?_;unfold Builtin.Dict.dictSlotNone; refine xAc (wpAny_notOrdered_dict x.ty ?_); show wpAny _ _ (pure (Value.ref d)) _ _ s;refine xAl ?_; show wpAny _ _ (Builtin.Dict.showsAll d>>=_) _ _ s;unfold Builtin.Dict.showsAll; rw[xAw (by rw[lo]; exact xAr)];refine xAc (xAl ?_); refine xAc (wpAny_dictEntries e1 e3 ?_); refine xAc (wpAny_dictEpoch e1 e3 ?_);refine xAc (xCc (xAl ⟨_,rfl,"dict_keyiterator",_,⟨_,xAq _ rfl,rfl⟩,F.slot_dict_keyiterator_next.lookup,?_⟩)); simpa [rawInt] using q
theorem oI {it:Addr}{i:Nat}{Q:xOP}(hh:A.handled=none)(ht:s.heap.IsKeyIter it d i es.size ep)(x:mO d es ep s.heap)
  (q1:∀ e h',es[i]?=some e->h'.IsKeyIter it d (i+1) es.size ep->Heap.SameBut it s.heap h'->Q (some e.key) { s with heap:=h' })
  (q2:∀ h',es[i]?=none->Heap.ExtBut it s.heap h'->Q none { s with heap:=h' }):wpAny (model prog w) A (pyNext (.ref it)) Q E s:=by
 obtain⟨oi,i1,i2,i3⟩:=id ht;obtain⟨od,e1,e2,e3⟩:=id x;have tyI:=ht.typeIs;unfold pyNext; refine xAc (xGn (wpAny_callSpecial?_slot (name:=Str.ofString "__next__") tyI F.slot_dict_keyiterator_next (xCz F.slot_dict_keyiterator_next tyI F.entry_dict_keyiterator_next ?_ (F.args_dict_keyiterator_next_1 _))));refine xAc (xAl ?_); refine xAc ?_; refine xAc ?_
 first | refine xAc (xEi tyI (xAl ?_)) | refine xAc (xFa tyI (xAl ?_))
 refine xAc (wpAny_fieldsOf i1 i3 ?_); have ow:Builtin.Dict_items.ownsTuple "dict_keyiterator"=false:=by decide
 simp only[ow,Bool.false_eq_true,if_false]; show wpAny _ _ (if (Value.ref d==Value.none)=true then _ else _) _ _ s
 rw[xAw (show ¬ ((Value.ref d==Value.none)=true) from xAr)]; refine xAc (xAl ?_); refine xAc (wpAny_dictEntries e1 e3 ?_)
 rw[xAw (by simp)]; refine xAc (xAl ?_); refine xAc (wpAny_dictEpoch e1 e3 ?_); rw[xAw (by simp)]; refine xAl ?_
 by_cases hl:i<es.size
 ·simp only[show ¬ ((i:Int)<0) from by omega,if_false,Int.toNat_natCast,Array.getElem?_eq_getElem hl]; refine xAc ?_
  first | refine xAc (xEi tyI (xAl ?_)) | refine xAc (xFa tyI (xAl ?_))
  refine xAc (xIk tyI ?_); show wpAny _ _ (setField (.ref it) 1 (rawInt ((i:Int)+1))>>=_) _ _ s
  refine xAc (xGg i1 i3 (by simp) ?_); have nx:(s.heap.update it (Obj.mapFields (·.setIfInBounds 1 (rawInt ((i:Int)+1))))).IsKeyIter it d (i+1) es.size ep:=
   ⟨_,xEh _ i1 (Obj.isFreed_of_fields (Obj.data_mapFields i3 _)),(Obj.cls_mapFields ..).trans i2,by rw[Obj.data_mapFields i3]; simp[rawInt]⟩
  refine xAc (xEl ?_); refine xAc (xIk (s:={ s with heap:=s.heap.update it (Obj.mapFields (·.setIfInBounds 1 (rawInt ((i:Int)+1)))) }) nx.typeIs ?_);show wpAny _ _ (pure es[i].key) _ _ _; exact xAl (xAl ⟨_,rfl,xAl (q1 _ _ (xHk hl) nx (xEu ..))⟩)
 ·have hn:es[i]?=none:=xIh (by omega);simp only[show ¬ ((i:Int)<0) from by omega,if_false,Int.toNat_natCast,hn]; refine xAc ?_
  first | refine xAc (xEi tyI (xAl ?_)) | refine xAc (xFa tyI (xAl ?_))
  show wpAny _ _ (setField (.ref it) 0 .none>>=_) _ _ s; refine xAc (xGg i1 i3 (by simp) ?_);show wpAny _ _ (newExc (.type "StopIteration") []>>=_) _ _ _; refine xAc ?_; simp only[newExc,newTuple]; refine xAc (xCc ?_ (by size_fits));refine xAc (m:=firstArgMember _ _) (xHc (a:=Value.none) (by first | rfl | (simp only[firstArgMember]; rfl)) ?_); refine xCc ?_ (by size_fits); simp only[raiseNew];refine xAc (wpAny_handled ?_); rw[show A.in1.handled=none from hh]; refine xAc (xAl (wpAny_throw ?_))
  refine xAc (wpAny_isInstance (T:="StopIteration") (b:=true) ⟨_,xAq _ rfl,rfl⟩ isSubtype_stop ?_); exact xAl (q2 _ hn (((xEu ..).extBut.push _).push _))
theorem aGa (hh:A.handled=none)(I:Addr)(hne:d≠I):Walks prog w A I [I,d] [I] es.size (λi v=>∃ e,es[i]?=some e/\v=e.key) (λi h=>h.IsKeyIter I d i es.size ep/\mO d es ep h) where
 sub:=λb hb=>by simp at hb; simp[hb]
 frame:=λ_ _ _ st hk=>⟨st.1.at λo e=>hk I (by simp) o e,st.2.to λo e=>hk d (by simp) o e⟩
 item:=λi s Q E hi st hQ=>oI hh st.1 st.2
  (λe h' he hi' hs=>hQ _ h' s.toks ⟨e,he,rfl⟩ ⟨hi',st.2.to λo e'=>hs.extBut d o hne e'⟩ λb o hb e'=>hs.extBut b o (λz=>hb (by simp[z])) e')
  (λh' he _=>xAu he (by simp[hi]))
 done:=λs Q E st hQ=>oI hh st.1 st.2 (λe h' he _ _=>xAu he (by simp)) λh' _ hx=>hQ h' s.toks λb o hb e'=>hx b o (λz=>hb (by simp[z])) e'
 self:=λ_ _ _ _ st hQ=>wpAny_pyIter_keyiter st.1 hQ
theorem aNh (lo:(d==sysModules)=false):KdlSrc prog w "dict" d d es.size (λi v=>∃ e,es[i]?=some e/\v=e.key) (mO d es ep) where
 type:=λ_ hm=>hm.ty
 there:=λ_ hm=>let ⟨_,e,_⟩:=hm; ⟨xAp e,xAp e⟩
 keep:=λ_ _ hm hk=>hm.to λo e=>hk d (.inl rfl) o e
 notList:=by decide
 notTuple:=by decide
 hint:=λ_ _ _ _ hm hq=>kdl_hint_dict hm.ty hq
 iter:=λ_ _ hh hm=>⟨_,_,(λ_ _ hq=>yS lo hm hq),aGa hh _ (let ⟨_,e,_⟩:=hm; xBd (xAp e)),⟨⟨_,xAq _ rfl,rfl,rfl⟩,hm.to λ_ e=>xAf _ e⟩⟩
end
abbrev lW (H:Hp)(bs:List Addr)(rs:xLL):Prop:=Paired (λb (r:List Str)=>H b=some (.tup (r.map V.str))) bs rs
section
variable {X:Cx}
theorem aDj {H:Hp}:∀ {kvs:List (List Key×V)}{xs:List (List Key×Addr×Value)}{rs:xLL},KT H kvs xs->kvs.map (·.1)=rs.map (λr=>r.map Sum.inr)->lW H (xs.map (·.2.1)) rs
 | _,_,[],.nil,_=>.nil
 | _,_,_::_,.nil,e=>by cases e
 | _,_,[],.cons _ _,e=>by cases e
 | _,_,r::rs,.cons a b,e=>by
  have e1:=List.cons.inj e;refine .cons ?_ (aDj b e1.2);refine a.2.1.trans ((congrArg (λl=>some (HO.tup (l.map kV))) e1.1).trans ?_);show some (HO.tup ((r.map Sum.inr).map kV))=_;rw[xDb];rfl
theorem uJ:∀ (bs:List Addr),bU (bs.map V.ref) (bs.map Value.ref)
 | []=>.nil
 | _::bs=>.cons rfl (uJ bs)
inductive aTx (xs:List V)(H:Hp)(Q:VK):Prop
 | mk (d:Addr)(kvs:List (List Key×V))(rs:xLL)(h0_:xs=[.ref d])(h1_:H d=some (.dT kvs))(h2_:kvs.map (·.1)=rs.map (λr=>r.map Sum.inr))(h3_:∀ (p:Addr) (bs:List Addr),H p=none->lW H bs rs->Q (.ref p) (upd H p (.lst (bs.map V.ref))))
theorem aBr (hc:X.calm=true):CallR X (.type "list") aTx:=by
 intro pins s σ H xs us Q I r h;obtain⟨d,kvs,rs,rfl,hd,hk,q⟩:=h;obtain⟨u,rfl,rx⟩:=kH r;cases rx;obtain⟨z,lo,ys,rel,o,es,ep,h1,h2,h3,h4,h5⟩:=(show dA X.prog X.w H s.heap d (.dT kvs) from I.hok d _ hd)
 have hl:kvs.length=ys.length:=Paired.length rel;have hsz:es.size=ys.length:=by rw[<- xCq,h4,xAa]
 refine kdl_call (aNh (es:=es) (ep:=ep) lo) (I.ok.hd hc) ⟨o,h1,h2,h3⟩ (by omega) λh' tk acc c' hkp hD hacc=>?_
 have ea:acc.toList=(ys.map (·.2.1)).map Value.ref:=by
  refine List.ext_getElem? λj=>?_;cases hj:acc.toList[j]? with
  | none=>
   have l1:acc.toList.length<=j:=xCe.mp hj
   have:=hacc.1
   rw[xCq] at l1;exact (xCe.mpr (by rw[xAa,xAa]; omega)).symm
  | some v=>
   obtain⟨e,he,rfl⟩:=hacc.2 j v (by rw[<- xDs]; exact hj);rw[<- xDs,h4,xAj] at he;cases hy:ys[j]? with
   | none=>rw[hy] at he; cases he
   | some y=>
    rw[hy] at he;cases he;rw[xDb,xAj,hy];rfl
 refine⟨.ref s.heap.objs.size,_,I.laid (t':=tk) hkp (xAh _) ?_,rfl,q _ (ys.map (·.2.1)) (I.hok.fresh (xAh _)) (aDj rel hk)⟩;refine⟨by rw[xAa,xAa]; omega,acc.toList,c',by rw[ea]; exact uJ _,by simpa using hD⟩
def aPt (tk tv:TE):TE:=λσ H Q=>∀ p,H p=none->tk σ (upd H p (.dT [])) λx H1=>tv σ H1 λy H2=>H2 p=some (.dT [])/\∃ (b:Addr) (ks:List Key),x=.ref b/\H2 b=some (.tup (ks.map kV))/\Q (.ref p) (upd H2 p (.dT [(ks,y)]))
theorem aIg {pos:Pos}{k v:Expr}{tk tv:TE}(hu:X.A.units<cLine)(hk:PE X k tk)(hv:PE X v tv):PE X (.Dict [some k] [v] pos) (aPt tk tv):=by
 intro pins s σ H Q I q;have hn:=I.hok.fresh (xAh s.heap.objs.size);have I1:=I.laid (a:=s.heap.objs.size) (o:=.dT []) (h':=s.heap.push { cls:=.type "dict",data:=.dict #[] }) (t':=s.toks) (λ_ _ q=>xAf _ q) (xAh _) (yT s.heap I.big);refine wpAny_Dict_any rfl rfl (λz=>nomatch z) (Nat.succ_le_succ (xBu _)) (pairTrees_cons_walk (thn (hk pins _ σ _ _ I1 (q _ hn)) λu s1 ⟨x,H1,I1,rx,q1⟩=>thn (hv pins s1 σ H1 _ I1 q1) λw2 s2 ⟨y,H2,I2,ry,q2⟩=>pairTrees_nil_walk ?_));obtain⟨e,b,ks,rfl,eb,q3⟩:=q2;cases rx;obtain⟨z,lo,xs,rel,dd⟩:=aPh I2.hok e;cases rel;unfold storeAll;rw[xFx];refine xAc (xAc (wpAny_dictSet_heap (knd:=tupleKind (dG X.prog X.w)) (hsz:=xBu _) hu (mX I2.hok eb) dd λh' dd' hs=>xAl ?_));show wpAny _ _ (forIn [] PUnit.unit _) _ _ _;rw[xHj];refine xAl ⟨.ref s.heap.objs.size,_,?_,rfl,q3⟩;obtain⟨q',es,ep,hq,h2,h3,h4,_,h5⟩:=dd';refine wO I2 (by rw[e]; exact True.intro) hs ⟨q',hq⟩ ⟨xAs (by decide:1<=16) (by decide),lo,_,(KT.put (.nil:KT H2 [] []) ks eb ry).keeps λc ys ec=>?_,q',es,ep,hq,h2,h3,h4,h5⟩;rw[aH (eZ ec e (λz=>nomatch z))];exact ec
end
theorem lW.get {H:Hp}:∀ {bs:List Addr}{rs:xLL}{i:Nat}{b:Addr},lW H bs rs->bs[i]?=some b->∃ r,rs[i]?=some r/\H b=some (.tup (r.map V.str))
 | _,_,_,_,.nil,e=>by simp at e
 | _,_,0,_,.cons r _,e=>by simp at e; subst e; exact⟨_,rfl,r⟩
 | _,_,i+1,b,.cons _ t,e=>by
  obtain⟨u,h1,h2⟩:=lW.get (i:=i) (b:=b) t (by simpa using e);exact⟨u,by simpa using h1,h2⟩
theorem lW.same {H H':Hp}{bs:List Addr}{rs:xLL}(t:lW H bs rs)(s:∀ b xs,H b=some (.tup xs)->H' b=some (.tup xs)):lW H' bs rs:=Paired.mapP t λ_ _ e=>s _ _ e
theorem lW.snoc {H:Hp}:∀ {bs:List Addr}{rs:xLL}{b:Addr}{r:List Str},lW H bs rs->H b=some (.tup (r.map V.str))->lW H (bs++[b]) (rs++[r])
 | _,_,_,_,.nil,e=>.cons e .nil
 | _,_,_,_,.cons a t,e=>.cons a (lW.snoc t e)
section
variable {X:Cx}{pins:xPn}{σ:St}{H:Hp}{s:Shared}{A:Around}
def aWc:V->Hp->VK->Prop:=λx H Q=>∃ i:Int,x=.int i/\i.natAbs.log2<1920/\Q (.str (Str.ofString (toString i))) H
theorem vY {e:Expr}{te:TE}{pos:Pos}(he:PE X e te):PE X (.FormattedValue e (-1) none pos) (tUn aWc te):=by
 intro pins s σ H Q I h;refine FormattedValue_plain (thn (he pins s σ H _ I h) λv s1 ⟨x,H1,I1,r1,i,e1,hi,q⟩=>?_);subst e1;obtain⟨t,rfl⟩:=r1;exact wpAny_formatField_int hi ⟨.str _,H1,I1.tok _,⟨_,rfl⟩,q⟩
end
section
variable {X:Cx}
def aPy (spC:Addr->Sp->Sp)(df:Addr)(spD:Sp)(E:XK)(t:TA):TE:=λσ H Q=>t σ H λvs H1=>spC df spD vs H1 Q E
theorem aIk {f:Addr}{fd:FuncData}{ps:List Str}{g:Str}{e:Expr}{es:List Expr}{p pos:Pos}{t:TA}{k kd:Nat}{spC:Addr->Sp->Sp}{df:Addr}{spD:Sp}{E:XK}
  (F:tK X.prog X.w X.K X.mg X.base k f fd ps (SpH X.prog X.w X.K X.mg X.base kd spC))(hr:bY k X.A)(hg:Gl X g)(hm:X.mg g=some (.ref f))(hk:keepIn X.K (.ref f)=true)(hb:aS X.K fd ps [])(hx:eN (CXE X.prog X.w) X E)
  (hd:∀ pins σ H s,Inv X pins σ H s->nC X.prog X.w X.K X.mg X.base kd df spD X.stack s H)
  (ha:PA X (e::es) t)(hdb:(g==("__debug__" : Str))=false:=by decide)(he:starEach (e::es) X.env=(false,eval e X.env)::starEach es X.env:=by rfl)(hpl:(backTo pos (starEach es X.env)).any (·.1)=false:=by rfl) :
  PE X (.Call (.Name g p) (e::es) [] pos) (aPy spC df spD E t):=by
 intro pins s σ H Q I h;refine xBz (fV I hg hm ?_ hdb);refine xCh (h₀:=X.base) I.ok.mod.kin hk (thn (ha pos pins s σ H _ I h) λus s1 ⟨vs,H1,I1,r,q⟩=>⟨I1.kIn,?_⟩) he hpl;have sp1:SpH X.prog X.w X.K X.mg X.base kd spC X.stack s1 vs H1 Q E:=⟨df,spD,hd _ _ _ _ I1,q⟩;have hl:us.length=ps.length:=by rw[<- r.length]; exact F.len _ _ _ _ _ _ sp1
 have bt:BindsTo s1 fd ⟨us,[]⟩ (ps.zip us):=by
  have:=hb s1 us I1.kIn (by rw[xBk]; exact hl)
  rw[xBk] at this;exact this
 exact tF I1 hx (F.run X.A X.stack s1 H1 _ us vs Q E hr I1.env0 bt r sp1)
end
section
variable {X:Cx}{pins:xPn}{σ:St}{H:Hp}{s:Shared}{d:Addr}{kvs:List (List Key×V)}
theorem Inv.freezeT (I:Inv X pins σ H s)(e:H d=some (.dT kvs)):∃ o,Inv X pins σ (upd H d (.frz o (.dT kvs))) s:=by
 have hO:=I.hok d _ e;obtain⟨o,ho⟩:=hO.ex
 have ne:∀ b u,H b=some u->(∀ k,u≠.dT k)->(upd H d (.frz o (.dT kvs))) b=some u:=λb u z n=>by
  rw[aH (λy=>by rw[y,e] at z; cases z; exact n kvs rfl)];exact z
 refine⟨o,I.step (h':=s.heap) (g':=s.gens) (d':=s.drawn) (t':=s.toks) (ch:=[]) (λb hb=>nomatch hb) (λb u _ _ _ z _=>z) (λb u _ _ _ z _=>⟨u.slots,z⟩)
  (λb u _ _ n=>by rw[aH (λy=>by rw[y,e] at n; cases n)]; exact n) (λb u _ z=>⟨u,z⟩) (λb xs z=>ne b _ z λk y=>by cases y) (λb u v z=>ne b _ z λk y=>by cases y)
  (λb ps z=>⟨#[],by rw[ne b _ z λk y=>by cases y]; simp⟩) (λm hm=>hm) (λb u z=>?_) I.bare⟩
 by_cases hb:b=d
 ·subst hb;rw[aD] at z;cases z;exact⟨ho,hO.stay (λc y _ q=>q) (λc q=>ne c _ q λk y=>by cases y) λc ys q=>ne c _ q λk y=>by cases y⟩
 ·rw[aH hb] at z;exact (I.hok b u z).stay (λc y _ q=>q) (λc q=>ne c _ q λk y=>by cases y) λc ys q=>ne c _ q λk y=>by cases y
inductive aUe (v:V)(H':Hp)(Q:VK):Prop
 | mk (d:Addr)(kvs:List (List Key×V))(h1:v=.ref d)(h2:H' d=some (.dT kvs))(q:∀ o,Q v (upd H' d (.frz o (.dT kvs))))
 | no (o:Obj) (d:Addr) (kvs:List (List Key×V)) (h1:v=.ref d) (h2:H' d=some (.frz o (.dT kvs))) (q:Q v H')
def aGv (t:TE):TE:=λσ H Q=>t σ H λv H'=>aUe v H' Q
theorem sE {e:Expr}{t:TE}(h:PE X e t):PE X e (aGv t):=by
 intro pins s σ H Q I q;refine thn (h pins s σ H _ I q) λv s1 ⟨x,H1,I1,r1,q0⟩=>?_;cases q0 with
 | mk d kvs e1 e2 q1=>
  obtain⟨o,I2⟩:=I1.freezeT e2;exact⟨x,_,I2,r1,q1 o⟩
 | no o d kvs e1 e2 q1=>exact⟨x,_,I1,r1,q1⟩
theorem aPd:∀ {kvs:List (List Key×V)}{xs:List (List Key×Addr×Value)}{i:Nat}{kv:List Key×V},KT H kvs xs->kvs[i]?=some kv->∃ x,xs[i]?=some x/\kv.1=x.1/\H x.2.1=some (.tup (kv.1.map kV))
 | _,_,_,_,.nil,h=>by simp at h
 | _,_,0,_,.cons a _,h=>by simp at h; subst h; exact⟨_,rfl,a.1,a.2.1⟩
 | _,_,i+1,kv,.cons _ t,h=>by
  obtain⟨x,h1,h2⟩:=aPd (i:=i) (kv:=kv) t (by simpa using h);exact⟨x,by simpa using h1,h2⟩
theorem wM {o:Obj}{ep:Nat}(I:Inv X pins σ H s)(e:H d=some (.frz o (.dT kvs)))(hep:∃ es,o.data=.dict es ep) :
  (d==sysModules)=false/\∃ es,es.size=kvs.length/\mO d es ep s.heap/\∀ (i:Nat) (kv:List Key×V),kvs[i]?=some kv->∃ (en:DictEntry) (b:Addr),es[i]?=some en/\en.key=.ref b/\H b=some (.tup (kv.1.map kV)):=by
 obtain⟨ho,z,lo,ys,rel,o',es,ep',h1,h2,h3,h4,h5⟩:=(show dA X.prog X.w H s.heap d (.frz o (.dT kvs)) from I.hok d _ e)
 rw[ho] at h1;cases h1;obtain⟨es',he⟩:=hep;rw[he] at h3;cases h3;have hl:kvs.length=ys.length:=Paired.length rel;have hsz:es.size=ys.length:=by rw[<- xCq,h4,xAa]
 refine⟨lo,es,by omega,⟨o,ho,h2,he⟩,λi kv hk=>?_⟩;obtain⟨y,hy,e1,e2⟩:=aPd rel hk;refine⟨entryOfKey (tupleKind (dG X.prog X.w)) y,y.2.1,?_,rfl,?_⟩
 ·rw[<- xDs,h4,xAj,hy];rfl
 ·exact e2
end
def ItK (d:Addr)(o:Obj)(kvs:List (List Key×V)):It:=
 ⟨λi H=>H d=some (.frz o (.dT kvs))/\i<kvs.length,λi H x H'=>H'=H/\∃ (kv:List Key×V) (b:Addr),kvs[i]?=some kv/\x=.ref b/\H b=some (.tup (kv.1.map kV)),λi H=>H d=some (.frz o (.dT kvs))/\kvs.length<=i⟩
theorem zL {P:Program}{w:World}{K:Frag}{tg:Expr}(d it:Addr)(o:Obj)(kvs:List (List Key×V))(ep:Nat)(hep:∃ es,o.data=.dict es ep):zC P w K tg (ItK d o kvs) [it] it (λi h=>h.IsKeyIter it d i kvs.length ep) where
 mem:=by simp
 obj:=λi h st b hb=>by
  have e:b=it:=by simpa using hb
  subst e;obtain⟨o,e,c,d⟩:=st;exact⟨o,e,λv z=>by rw[d] at z; cases z⟩
 keep:=λi h h' st k=>by
  obtain⟨o,e,r⟩:=st;exact⟨o,k it (by simp) o e,r⟩
 item:=by
  intro X hP hw hK hc i pins s σ H E I hf st hg;subst hP hw hK;obtain⟨hd,hi⟩:=hg;obtain⟨lo,es,hsz,hat,hget⟩:=wM I hd hep;obtain⟨f0,f1,f2,f3,f4,f5⟩:=hf it (by simp);obtain⟨en,b,h1,h2,h3⟩:=hget i kvs[i] (by simp[hi]);rw[<- hsz] at st;refine oI (I.ok.hd hc) st hat (λe h' he st' sb=>?_) (λh' he _=>xAu he (by rw[h1]; simp));rw[h1] at he;cases he;have I1:Inv X pins σ H { s with heap:=h' }:=I.turned (t':=s.toks) (λb o hb e=>(sb.2 b hb).trans e) f0 f1 f3 f4 f5;obtain⟨o',e,c,dd⟩:=id st';exact⟨en.key,rfl,aDm (s:={ s with heap:=h' }) e c dd (by decide) ⟨.ref b,H,I1,h2,⟨rfl,kvs[i],b,by simp[hi],rfl,h3⟩,by rw[<- hsz]; exact st',λb hb=>(hf b hb).1⟩⟩
 done:=by
  intro X hP hw hK hc i pins s σ H E I hf st hg;subst hP hw hK;obtain⟨hd,hi⟩:=hg;obtain⟨lo,es,hsz,hat,hget⟩:=wM I hd hep;obtain⟨f0,f1,f2,f3,f4,f5⟩:=hf it (by simp);rw[<- hsz] at st hi;exact oI (I.ok.hd hc) st hat (λe h' he _ _=>xAu he (by rw[xIh hi]; simp)) λh' _ eb=>⟨rfl,I.turned (t':=s.toks) (λb o hb e=>eb b o hb e) f0 f1 f3 f4 f5⟩
 self:=λ_ _ _ _ _ st h=>wpAny_pyIter_keyiter st h
section
variable {X:Cx}{tg:Expr}
inductive aUb (x:V)(H1:Hp)(R:It->Hp->Prop):Prop
 | mk (d:Addr)(o:Obj)(kvs:List (List Key×V))(h1:x=.ref d)(h2:H1 d=some (.frz o (.dT kvs)))(r:R (ItK d o kvs) H1)
def aRi (tl:TE):TI:=λσ H R=>tl σ H λx H1=>aUb x H1 R
theorem xQ {l:Expr}{tl:TE}(hl:PE X l tl):PI X tg l (aRi tl):=by
 intro pins s σ H R I h;refine thn (hl pins s σ H _ I h) λv s1 ⟨x,H1,I1,r1,q1⟩=>?_;obtain⟨d,o,kvs,e,hd,q⟩:=q1;subst e;cases r1
 have hep:∃ ep es,o.data=.dict es ep:=by
  obtain⟨ho,z,lo,ys,rel,o',es,ep',h1,h2,h3,h4,h5⟩:=(show dA X.prog X.w H1 s1.heap d (.frz o (.dT kvs)) from I1.hok d _ hd)
  rw[ho] at h1;cases h1;exact⟨ep',es,h3⟩
 obtain⟨ep,hep⟩:=hep;obtain⟨lo,es,hsz,hat,hget⟩:=wM I1 hd hep;refine yS lo hat ?_;refine⟨s1.heap.objs.size,[s1.heap.objs.size],_,_,H1,rfl,I1.kept (t':=s1.toks) λb o e=>xAf _ e,zL d _ o kvs ep hep,⟨_,xAq _ rfl,rfl,by rw[hsz]; rfl⟩,λb hb=>?_,q⟩;have e:b=s1.heap.objs.size:=by simpa using hb
 subst e;exact I1.fpOk (xAh _) (I1.hok.fresh (xAh _))
theorem aGh {d D:Addr}{o:Obj}{kvs:List (List Key×V)}{g:TG}{tc:TT}{te:TE}{R:Hp->Prop}{σ:St}{H:Hp}(Pv:Nat->St->Hp->Prop)(h0:Pv 0 σ H)
  (hl:∀ i σ H,i<=kvs.length->Pv i σ H->H d=some (.frz o (.dT kvs)))
  (hs:∀ i kv b σ H,kvs[i]?=some kv->H b=some (.tup (kv.1.map kV))->Pv i σ H->g (.ref b) σ H λσ2 H2=>tc σ2 H2 λb H3=>if b=true then te σ2 H3 λy H4=>∃ ys,H4 D=some (.lst ys)/\ys.length<sizeLine/\Pv (i+1) σ2 (upd H4 D (.lst (ys++[y]))) else Pv (i+1) σ2 H3)
  (hd:∀ σ H,Pv kvs.length σ H->R H):xA (ItK d o kvs) D g tc te R σ H:=by
 refine⟨λi m σ H=>m=kvs.length-i/\i<=kvs.length/\Pv i σ H,⟨kvs.length,by simp,xBu _,h0⟩,?_⟩;rintro i m σ H ⟨rfl,hi,p⟩;have q:=hl i σ H hi p
 by_cases hlt:i<kvs.length
 ·refine .inr ⟨⟨q,hlt⟩,Pv (i+1),λσ' H' p'=>⟨kvs.length-(i+1),by omega,rfl,hlt,p'⟩,λx H' y=>?_⟩;obtain⟨rfl,kv,b,e,rfl,hb⟩:=y;exact hs i kv b σ H' e hb p
 ·have e:i=kvs.length:=by omega
  subst e;exact .inl ⟨⟨q,xAh _⟩,hd σ H p⟩
theorem aFw {d:Addr}{o:Obj}{kvs:List (List Key×V)}{g:TG}{tb:TS}{D:tL}{σ:St}{H:Hp}(Pv:Nat->St->Hp->Prop)(h0:Pv 0 σ H)(hl:∀ i σ H,i<=kvs.length->Pv i σ H->H d=some (.frz o (.dT kvs)))
  (hs:∀ i kv b σ H,kvs[i]?=some kv->H b=some (.tup (kv.1.map kV))->Pv i σ H->g (.ref b) σ H λσ2 H2=>tb { D with nx:=Pv (i+1),ct:=Pv (i+1),bk:=D.nx } σ2 H2)(hd:∀ σ H,Pv kvs.length σ H->D.nx σ H) :
  ∃ W:Nat->Nat->St->Hp->Prop,(∃ m,W 0 m σ H)/\∀ i m σ H,W i m σ H ->
   ((ItK d o kvs).stop i H/\D.nx σ H)\/((ItK d o kvs).go i H/\∃ N:St->Hp->Prop,(∀ σ' H',N σ' H'->∃ m',m'<m/\W (i+1) m' σ' H')/\∀ x H',(ItK d o kvs).yld i H x H'->g x σ H' λσ2 H2=>tb { D with nx:=N,ct:=N,bk:=D.nx } σ2 H2):=by
 refine⟨λi m σ H=>m=kvs.length-i/\i<=kvs.length/\Pv i σ H,⟨kvs.length,by simp,xBu _,h0⟩,?_⟩;rintro i m σ H ⟨rfl,hi,p⟩;have q:=hl i σ H hi p
 by_cases hlt:i<kvs.length
 ·refine .inr ⟨⟨q,hlt⟩,Pv (i+1),λσ' H' p'=>⟨kvs.length-(i+1),by omega,rfl,hlt,p'⟩,λx H' y=>?_⟩;obtain⟨rfl,kv,b,e,rfl,hb⟩:=y;exact hs i kv b σ H' e hb p
 ·have e:i=kvs.length:=by omega
  subst e;exact .inl ⟨⟨q,xAh _⟩,hd σ H p⟩
theorem xU {a b:Expr}{ta tb:TE}{pos:Pos}(ha:PE X a ta)(hb:PE X b tb):PE X (.JoinedStr [a,b] pos) (aCd [ta,tb] Str.empty):=
 λpins s σ H Q I h=>JoinedStr_many ((nW ha (nW hb aId)) Str.empty pins s σ H Q I h)
end
section
variable {X:Cx}
end
section
variable {X:Cx}{σ:St}{ι:Type}{CX:CXT}{k:Nat}{f C:Addr}{fd:FuncData}{ps:List Str}{sp:Sp}{dvs:List V}{ds:List Value}{E:XK}{x m:Str}{p pos apos:Pos}{e o:Expr}{es:List Expr}{ta:TE}{t:TA}{Cs fs:ι->Addr}{fds:ι->FuncData}{sps:ι->Sp}
def aLo (X:Cx)(σ:St)(e:Expr)(t:TE):Prop:=∀ (pins:xPn) (s:Shared) (H:Hp) (Q:VK),Inv X pins σ H s->t σ H Q->wpAny (model X.prog X.w) X.A (eval e X.env) (EP X pins σ Q) X.xe s
def lL (CX:CXT)(X:Cx)(σ:St)(E:XK):Prop:=∀ (pins:xPn) (H:Hp) (s:Shared) (e:Value) (s':Shared),Inv X pins σ H s->CX X.stack H s E e s'->X.xe e s'
theorem eN.at (h:eN CX X E):lL CX X σ E:=λpins H s e s'=>h pins σ H s e s'
theorem vS {pins:xPn}{H:Hp}{s:Shared}{Q:VK}{us:List Value}{vs:List V}(F:aP X.prog X.w X.K X.mg X.base CX k f fd ps sp)(hr:bY k X.A)(hb:aS X.K fd ps ds)(hd:bU dvs ds)(hx:lL CX X σ E)
  (I:Inv X pins σ H s)(r:bU vs us)(h:sp (vs++dvs) H Q E):wpAny (model X.prog X.w) X.A (call (.ref f) us) (EP X pins σ Q) X.xe s:=by
 have r2:bU (vs++dvs) (us++ds):=r.append hd;have hl:(us++ds).length=ps.length:=by rw[<- r2.length]; exact F.len _ _ _ _ h
 refine xFc (xDx (F.run X.A X.stack s H ⟨us,[]⟩ (us++ds) (vs++dvs) Q E hr I.env0 (hb s us I.kIn hl) r2 h) λr s' hq=>?_);cases r with
 | error e=>exact hx pins H s e s' I hq
 | ok fl=>
  cases fl with
  | ret u=>exact I.after hq
  | _=>exact False.elim hq
theorem aDv (F:aP X.prog X.w X.K X.mg X.base CX k f fd ps sp)(hr:bY k X.A)(hg:Gl X x)(hm:X.mg x=some (.ref f))(hk:keepIn X.K (.ref f)=true)(hb:aS X.K fd ps [])(hx:lL CX X σ E)
  (ha:PA X (e::es) t)(hdb:(x==("__debug__" : Str))=false:=by decide)(he:starEach (e::es) X.env=(false,eval e X.env)::starEach es X.env:=by rfl)(hpl:(backTo pos (starEach es X.env)).any (·.1)=false:=by rfl) :
  aLo X σ (.Call (.Name x p) (e::es) [] pos) (wZ sp [] E t):=by
 intro pins s H Q I h;refine xBz (fV I hg hm ?_ hdb);refine xCh (h₀:=X.base) I.ok.mod.kin hk (thn (ha pos pins s σ H _ I h) λus s1 ⟨vs,H1,I1,r,q⟩=>⟨I1.kIn,?_⟩) he hpl;exact vS F hr hb .nil hx I1 r q
theorem aNz (M:Mk X.K C f)(F:aP X.prog X.w X.K X.mg X.base CX k f fd ps sp)(hr:bY (k+1) X.A)(hg:Gl X x)(hm:X.mg x=some (.ref C))(hb:aS X.K fd ps [])(hx:lL CX X σ E)
  (ha:PA X (e::es) t)(hdb:(x==("__debug__" : Str))=false:=by decide)(he:starEach (e::es) X.env=(false,eval e X.env)::starEach es X.env:=by rfl)(hpl:(backTo pos (starEach es X.env)).any (·.1)=false:=by rfl) :
  aLo X σ (.Call (.Name x p) (e::es) [] pos) (aOk C sp [] E t):=by
 intro pins s H Q I h;refine xBz (fV I hg hm ?_ hdb);refine xCh (h₀:=X.base) I.ok.mod.kin M.kp (thn (ha pos pins s σ H _ I h) λus s1 ⟨vs,H1,I1,r,q⟩=>⟨I1.kIn,?_⟩) he hpl;have hq:=q (s1.heap.objs.size+1) s1.heap.objs.size (I1.hok.fresh (xFi _)) (I1.hok.fresh (xAh _)) (xBd (xFk _));rw[xBk] at hq;have I2:=Inv.made (C:=C) I1;have r2:bU (V.ref (s1.heap.objs.size+1)::vs) (Value.ref (s1.heap.objs.size+1)::us):=.cons rfl r
 have hl:(Value.ref (s1.heap.objs.size+1)::us).length=ps.length:=by
  have e:=r2.length;rw[F.len _ _ _ _ hq] at e;exact e.symm
 have hb':=hb _ (Value.ref (s1.heap.objs.size+1)::us) I2.kIn (by rw[xBk]; exact hl);rw[xBk] at hb';refine xFc (yJ (f:=f) I1.kIn M.makes M.init (xDy.mp M.fn) (xDx (F.run _ X.stack _ _ ⟨Value.ref (s1.heap.objs.size+1)::us,[]⟩ _ _ _ E (hr.make C us []) (I2.env0.make C us []) hb' r2 hq) λr s' hq'=>?_));cases r with
 | error e=>exact hx pins _ _ e s' I2 hq'
 | ok fl=>
  cases fl with
  | ret u=>
   obtain⟨v,H',I3,rv,ev,q3⟩:=I2.after hq';subst ev;exact⟨rv,⟨V.ref (s1.heap.objs.size+1),H',I3,rfl,q3⟩⟩
  | _=>exact False.elim hq'
inductive aOe (Cs:ι->Addr)(m:Str)(x:V)(H1:Hp)(R:ι->Prop):Prop
 | mk (i:ι)(a dx:Addr)(fl:List (Str×V))(h1:x=.ref a)(h2:H1 a=some (.ins (Cs i) dx fl))(h3:fl.lookup m=none)(r:R i)
def zM (Cs:ι->Addr)(m:Str)(sps:ι->Sp)(E:XK)(ta:TE)(t:TA):TE:=λσ H Q=>ta σ H λx H1=>aOe Cs m x H1 λi=>t σ H1 λvs H2=>sps i (x::vs) H2 Q E
theorem yZ {pl:Sem Bool}(he:PE X o ta)(c:∀ i,Cls X.K (Cs i))(hm:∀ i,eI X.K (Cs i) m (fs i))(F:∀ i,aP X.prog X.w X.K X.mg X.base CX k (fs i) (fds i) ps (sps i))(hr:bY k X.A)(hb:∀ i,aS X.K (fds i) ps [])(hx:lL CX X σ E)(ha:PA X (e::es) t)
  (hst:starEach (e::es) X.env=(false,eval e X.env)::starEach es X.env:=by rfl)(hpl:(backTo pos (starEach es X.env)).any (·.1)=false:=by rfl)
  (ht:eval (.Call (.Attribute o m apos) (e::es) [] pos) X.env=(do
   let ov <- eval o X.env
   standAt apos.atName
   let (f,first) <- holding [ov] (getMethod ov m pl)
   callWith pos f first (backTo pos (starEach (e::es) X.env)) (backToKw pos (keywordEach [] X.env))):=by rfl) :
  aLo X σ (.Call (.Attribute o m apos) (e::es) [] pos) (zM Cs m sps E ta t):=by
 intro pins s H Q I h;refine xDo (pl:=pl) (thn (he pins s σ H _ I h) λu s1 ⟨x,H1,I1,rx,i,a,dx,fl,ex,ea,l,q⟩=>?_) ht;subst ex;obtain rfl:u=Value.ref a:=rx;refine jX I1 ea (c i) (hm i) l (xCh (first:=[.ref a]) (h₀:=X.base) I.ok.mod.kin (hm i).kp (thn (ha pos pins s1 σ H1 _ I1 q) λus s2 ⟨vs,H2,I2,r,q2⟩=>⟨I2.kIn,?_⟩) hst hpl);exact vS (us:=.ref a::us) (vs:=.ref a::vs) (dvs:=[]) (F i) hr (hb i) .nil hx I2 (.cons rfl r) (by rw[xBk]; exact q2)
theorem xS {pl:Sem Bool}(he:PE X o ta)(c:∀ i,Cls X.K (Cs i))(hm:∀ i,eI X.K (Cs i) m (fs i))(F:∀ i,aP X.prog X.w X.K X.mg X.base CX k (fs i) (fds i) ps (sps i))(hr:bY k X.A)(hb:∀ i,aS X.K (fds i) ps [])(hx:eN CX X E)(ha:PA X (e::es) t)
  (hst:starEach (e::es) X.env=(false,eval e X.env)::starEach es X.env:=by rfl)(hpl:(backTo pos (starEach es X.env)).any (·.1)=false:=by rfl)
  (ht:eval (.Call (.Attribute o m apos) (e::es) [] pos) X.env=(do
   let ov <- eval o X.env
   standAt apos.atName
   let (f,first) <- holding [ov] (getMethod ov m pl)
   callWith pos f first (backTo pos (starEach (e::es) X.env)) (backToKw pos (keywordEach [] X.env))):=by rfl) :
  PE X (.Call (.Attribute o m apos) (e::es) [] pos) (zM Cs m sps E ta t):=λpins s σ=>yZ he c hm F hr hb hx.at ha hst hpl ht pins s
theorem uL {pl:Sem Bool}(he:PE X o ta)(c:∀ i,Cls X.K (Cs i))(hm:∀ i,eI X.K (Cs i) m (fs i))(F:∀ i,aP X.prog X.w X.K X.mg X.base CX k (fs i) (fds i) ps (sps i))(hr:bY k X.A)(hb:∀ i,aS X.K (fds i) ps [])(hx:eN CX X E)
  (ht:eval (.Call (.Attribute o m apos) [] [] pos) X.env=(do
   let ov <- eval o X.env
   standAt apos.atName
   let (f,first) <- holding [ov] (getMethod ov m pl)
   callWith pos f first [] []):=by rfl):PE X (.Call (.Attribute o m apos) [] [] pos) (zM Cs m sps E ta qF):=by
 intro pins s σ H Q I h;refine xDo (pl:=pl) (thn (he pins s σ H _ I h) λu s1 ⟨x,H1,I1,rx,i,a,dx,fl,ex,ea,l,q⟩=>?_) ht;subst ex;obtain rfl:u=Value.ref a:=rx;refine jX I1 ea (c i) (hm i) l (callWith_K0 (first:=[.ref a]) I1.kIn (hm i).kp ?_);exact vS (us:=[.ref a]) (vs:=[.ref a]) (dvs:=[]) (F i) hr (hb i) .nil hx.at I1 (.cons rfl .nil) (by rw[xBk]; exact q)
theorem qQ {pl:Sem Bool}{mc:Value}(hg:Gl X x)(hm:X.mg x=some (.ref C))(hs:specialIn X.K (.ref C) "__getattribute__" = some (some (.builtin "type.__getattribute__")))(hrd:readsIn X.K C mc=true)(hf:findCls X.K (.ref C) mc m=some (.val (.ref f)))(hh:handedIn (.ref f)=true)
  (kp:keepIn X.K (.ref f)=true)(F:aP X.prog X.w X.K X.mg X.base CX k f fd ps sp)(hr:bY k X.A)(hb:aS X.K fd ps [])(hx:eN CX X E)(ha:PA X (e::es) t)
  (hdb:(x==("__debug__" : Str))=false:=by decide)(hst:starEach (e::es) X.env=(false,eval e X.env)::starEach es X.env:=by rfl)(hpl:(backTo pos (starEach es X.env)).any (·.1)=false:=by rfl)
  (ht:eval (.Call (.Attribute (.Name x p) m apos) (e::es) [] pos) X.env=(do
   let ov <- eval (.Name x p) X.env
   standAt apos.atName
   let (f,first) <- holding [ov] (getMethod ov m pl)
   callWith pos f first (backTo pos (starEach (e::es) X.env)) (backToKw pos (keywordEach [] X.env))):=by rfl) :
  PE X (.Call (.Attribute (.Name x p) m apos) (e::es) [] pos) (wZ sp [] E t):=by
 intro pins s σ H Q I h;refine xDo (pl:=pl) (fV I hg hm ?_ hdb) ht;refine method_cls I.kIn hs (cls_value I.kIn hrd hf hh ?_);have I1:=I.tok (s.toks+1);refine xCh (first:=[]) (h₀:=X.base) I.ok.mod.kin kp (thn (ha pos pins _ σ H _ I1 h) λus s2 ⟨vs,H2,I2,r,q2⟩=>⟨I2.kIn,?_⟩) hst hpl;exact vS (us:=us) (vs:=vs) (dvs:=[]) F hr hb .nil hx.at I2 r q2
end
section
variable {X:Cx}{pins:xPn}{σ:St}{H:Hp}{s:Shared}
theorem Inv.lose {h':Heap}{m:xSO}{v:Option Value}{t' i:Nat}{n:Str}(I:Inv X pins σ H s)(hN:X.N.Nodup)(hi:X.N[i]?=some n)(hm:s.heap.Ns X.env.locals m/\∀ (i:Nat) (x:Str) (v:V),X.N[i]?=some x->σ[i]?=some (some v)->Vis X.env.scope x->∃ u,cC v u/\aTw X.env s.heap m x u)
  (ns:h'.Ns X.env.locals λx=>if x=n then v else m x)(sb:Heap.SameBut X.env.locals s.heap h'):Inv X pins (σ.set i none) H { s with heap:=h',toks:=t' }:=by
 have J:=I.forget (t':=t') ns sb;refine⟨J.ok,J.os,J.bare,J.base,⟨_,ns,λj x v' e1 e2 e3=>?_⟩,J.cell,J.free,J.freeC,J.pin,J.hok,by rw[List.length_set]; exact I.len⟩
 have hj:j≠i:=λz=>by
  subst z;have hl:j<σ.length:=by rw[I.len]; exact (xAd.mp hi).1
  rw[xFo hl] at e2;cases e2
 rw[xGd (Ne.symm hj)] at e2;obtain⟨u,r,q⟩:=hm.2 j x v' e1 e2 e3;have hx:x≠n:=λz=>hj ((xEe (xAd.mp e1).1 hN).mp (by rw[e1,hi,z]));refine⟨u,r,q.elim (λq=>.inl ⟨q.1,by show (if x=n then v else m x)=some u; rw[xAw hx]; exact q.2⟩) λ⟨q,c,hc,z⟩=>.inr ⟨q,c,hc,z.sameBut sb (I.cne x c hc)⟩⟩
def aRk (X:Cx)(pins:xPn)(σ:St)(Ew:XK):Value->Shared->Prop:=λev s'=>∃ pl H0 s0,Inv (X.pinned (X.pn++pins) λ_ _=>True) pl σ H0 s0/\CXE X.prog X.w X.stack H0 s0 Ew ev s'
def aOi (K:xAb)(wv:Value)(i:Nat)(t1:XK->TE)(tb ts:TS):TS:=λD σ H=>∃ Ew:XK,t1 Ew σ H (λ_ H1=>tb D σ H1)/\∀ cls H1,Ew cls none H1->∃ C,cls=.ref C/\exmOne K (.ref C) wv=some true /\
 ∀ (e:Addr),H1 e=none->ts { nx:=λσ2 H2=>D.nx (σ2.set i none) H2,rt:=D.rt } (σ.set i (some (.ref e))) (upd H1 e (.ext (hJ e C)))
theorem vV {e1:Expr}{body:List Stmt}{x n:Str}{W:Addr}{p1 np hpos pos:Pos}{b₀:Stmt}{suite:List Stmt}{i:Nat}{t1:XK->TE}{tb ts:TS}(hd:(x==("__debug__" : Str))=false)(hw:swapsWith e1 none p1.line X.env=pure false)(F:X.Frame)(hN:X.N.Nodup)(hi:X.N[i]?=some n)(hl:X.env.scope.names.lookup n=some .local)
  (hg:Gl X x)(hm:X.mg x=some (.ref W))(h1:∀ pn E σ Ew,lL (CXE X.prog X.w) (X.pinned pn E) σ Ew->aLo (X.pinned pn E) σ e1 (t1 Ew))(hb:∀ pn E,PSs (X.pinned pn E) body tb)(hs:∀ e pn,PSs (X.caught e pn) (b₀::suite) ts)
  : PS X (.Try (.Expr e1 p1::body) [.ExceptHandler (some (.Name x np)) (some n) (b₀::suite) hpos] [] [] pos) (aOi X.K (.ref W) i t1 tb ts):=by
 intro pins s σ H D I h;obtain⟨Ew,hq,h2⟩:=h
 have pass:lL (CXE X.prog X.w) (X.pinned (X.pn++pins) (aRk X pins σ Ew)) σ Ew:=λpl H0 s0 ev s' I0 hx=>
  ⟨pl,H0,s0,I0.unpin.repin _ |> λJ=>⟨⟨J.ok.mod,J.ok.kind,J.ok.glob,J.ok.blt,J.ok.above,J.ok.inj,J.ok.has,J.ok.cab,J.ok.hd,J.ok.frames,J.ok.stk,J.ok.exf,J.ok.bs,J.ok.bsz,J.ok.noex,J.ok.exfs,J.ok.funs,J.ok.frf⟩,
   I0.os,I0.bare,I0.base,I0.loc,I0.cell,I0.free,I0.freeC,I0.pin,I0.hok,I0.len⟩,hx⟩
 refine wpAny_Try_except (xCj (xFj (Q:=SP (X.pinned (X.pn++pins) (aRk X pins σ Ew)) [] D) (thn (wpAny_Expr_any (Q:=SP (X.pinned (X.pn++pins) (aRk X pins σ Ew)) [] { D with nx:=λσ1 H1=>σ1=σ/\tb D σ H1 }) (thn (h1 _ _ σ Ew pass [] s H _ (I.repin _) hq) λv s1 ⟨x,H1,I1,r1,q1⟩=>⟨σ,H1,I1,rfl,q1⟩) (I.repin (λ_ _=>True)).quiet hw) λf s1 q=>?_)) (λf s1 q=>?_) λev s1 q=>?_)
 ·cases f with
  | next=>
   obtain⟨σ1,H1,I1,rfl,q1⟩:=q;exact hb _ _ [] s1 _ H1 D I1 q1
  | _=>exact q
 ·cases f with
  | next=>
   obtain⟨σ1,H1,I1,q1⟩:=q;exact xEn ⟨σ1,H1,I1.unpin,q1⟩
  | brk=>obtain⟨σ1,H1,I1,q1⟩:=q; exact⟨σ1,H1,I1.unpin,q1⟩
  | cont=>obtain⟨σ1,H1,I1,q1⟩:=q; exact⟨σ1,H1,I1.unpin,q1⟩
  | ret u=>obtain⟨v,σ1,H1,I1,r1,q1⟩:=q; exact⟨v,σ1,H1,I1.unpin,r1,q1⟩
 ·obtain⟨pl,H0,s0,I0',e,t,cls,vs,H1,B,rfl,g2,g3,g4,g5,g6,g7,g8,g9,g10,g12,g11⟩:=q;have I0:Inv X pins σ H0 s0:=I0'.unpin;obtain⟨C,rfl,hmatch,hts⟩:=h2 cls H1 g11;have hfr:X.A.frames=some (X.env::X.outer):=by rw[I.ok.frames,F.stk]
  have g6':=g6;rw[F.stk] at g6';refine wpAny_looks_onW hfr F.frm g6' λh3 held3 up3=>?_;refine wpAny_landsW held3 λh4 fl4 up4=>?_;have fl4':Heap.FlyingW B X.stack e (.ref C) (.ref t) h4:=by rw[F.stk]; exact fl4
  have st4:=(aKi I0 g2 g3 g4 g5 g6.1 fl4' (up3.trans up4) g9 g10 g12).2;have K4:=st4.mark e;refine wpAny_handleBy_cons (codeAny_handlers_test (fV (X:=X.caught e (X.pn++pins)) K4 hg hm ?_ hd)) (by intro z; cases z);obtain⟨oe,ws,hoe,hoc,hod,_⟩:=fl4.first;have LT:Looks (model X.prog X.w) h4 (typeOf (.ref e)) (.ref C):=(show hJ e C h4 from ⟨oe,ws,hoe,hoc,hod⟩).type
  refine (exm_one (M:=model X.prog X.w) K4.kIn LT hmatch).at ?_;refine codeAny_handlers_suite_as ?_;refine lands_againW fl4 λh5 fl5 up5=>?_;have fl5':Heap.FlyingW B X.stack e (.ref C) (.ref t) h5:=by rw[F.stk]; exact fl5
  obtain⟨he,st5⟩:=aKi I0 g2 g3 g4 g5 g6.1 fl5' ((up3.trans up4).trans up5) g9 g10 g12;have K5:=st5.mark e;refine rD (X:=X.caught e (X.pn++pins)) K5 hN hi (.inl hl) (v:=.ref e) rfl (λs6 I6=>?_) (.inr hl);refine xCj (hs e (X.pn++pins) [] s6 _ _ _ I6 (hts e he)) (λf s7 q7=>?_) λ_ _ z=>z.elim
  have gone:∀ {σ7:St}{H7:Hp}{Q:Unit->Shared->Prop}{E:xVP},Inv (X.caught e (X.pn++pins)) [] σ7 H7 s7->(∀ s8,Inv X pins (σ7.set i none) H7 s8->Q () s8) ->
    wpAny (model X.prog X.w) X.A (do bindName X.env n .none; unbindBehindTheSuite X.env n hpos) Q E s7:=λ{σ7 H7 Q E} I7 k=>by
   have J7:Inv X pins σ7 H7 s7:=I7.unmark I.ok;obtain⟨m,hn⟩:=J7.loc;exact wpAny_nameGoes_keeps hl hn.1 (by rw[I.ok.kind]; rfl) λh8 v8 ns8 sb8=>k _ (J7.lose hN hi hn ns8 sb8)
  cases f with
  | next=>obtain⟨σ7,H7,I7,q7⟩:=q7; exact gone I7 λs8 I8=>⟨_,H7,I8,q7⟩
  | brk=>obtain⟨σ7,H7,I7,q7⟩:=q7; exact q7.elim
  | cont=>obtain⟨σ7,H7,I7,q7⟩:=q7; exact q7.elim
  | ret u=>obtain⟨v,σ7,H7,I7,r7,q7⟩:=q7; exact gone I7 λs8 I8=>⟨v,_,H7,I8,r7,q7⟩
end
theorem aGi (a b:Value):argsOk "max" ⟨[a],[("default",b)]⟩:=by unfold argsOk; kernel_rfl
def qJ:Option Value->List Value->Option Value
 | b,[]=>b
 | none,u::us=>qJ (some u) us
 | some (.int m t),.int n r::us=>qJ (if n>m then some (.int n r) else some (.int m t)) us
 | some b,_::us=>qJ (some b) us
def isInt:Value->Prop
 | .int _ _=>True
 | _=>False
section
variable {P:Program}{w:World}{A:Around}{R:Result->Shared->Prop}
theorem aNd {it a S:Addr}{us:List Value}{d:Value}(hh:A.handled=none)(hi:∀ u∈us,isInt u)(ni:it≠S)(na:a≠S) :
  ∀ (k i:Nat) (s:Shared) (b:Option Value) (c:Nat),us.length-i=k->i<=us.length->(∀ v,b=some v->isInt v)->s.heap.IsListIter it a i->s.heap.IsList a us.toArray->s.heap.get? S=some { cls:=.type "list",data:=.seq (match b with | none=>#[] | some v=>#[v,v]) c } ->
   (∀ s',s'.gens=s.gens->s'.os=s.os->s'.drawn=s.drawn->s'.toks=s.toks->(∀ b o,b≠it->b≠S->s.heap.get? b=some o->s'.heap.get? b=some o)->R (.ok (.ret ((qJ b (us.drop i)).getD d))) s') ->
   codeAny (model P w) A (.builtin "max.loop" ⟨[.ref it,.none,.ref S],[("default",d)]⟩) R s:=by
 intro k
 induction k with
 | zero=>
  intro i s b c hk hl hb h1 h2 h3 q;have ei:i=us.length:=by omega
  subst ei;rw[List.drop_of_length_le (xAh _)] at q;refine xHd xId ?_;rw[Around.under_plainId xCx _];show wpAny _ A.in1 (seqItems? (.ref S)>>=_) _ _ s;refine xAc (xCu h3 rfl ?_);show wpAny _ A.in1 (tryCatch (pyNext (.ref it)) _>>=_) _ _ s;refine xAc (xHh (xIi hh h1 h2 (by simp) λh' ex=>?_));cases b with
  | none=>
   show wpAny _ _ (rule _>>=_) _ _ _;exact xAc (xHl (xAl (q _ rfl rfl rfl rfl λb o n1 n2 e=>ex b o n1 e)))
  | some v=>
   have nS:S≠it:=Ne.symm ni;show wpAny _ _ (updateSeq S (λ_=>#[])>>=_) _ _ _;refine xAc (xHb (ex S _ nS h3) rfl (xAc (xEm (xAl (q _ rfl rfl rfl rfl λb o n1 n2 e=>?_)))));exact (xEd _ _ (Ne.symm n2)).trans (ex b o n1 e)
 | succ k ih=>
  intro i s b c hk hl hb h1 h2 h3 q;have hlt:i<us.length:=by omega
  have hu:=xAi hlt;have hmem:=xCl hlt;have ed:us.drop i=us[i]::us.drop (i+1):=xDd hlt;rw[ed] at q;generalize us[i]=u at hu hmem q;have iu:=hi u hmem;have nai:a≠it:=λz=>by obtain⟨o,e',cc,_⟩:=h1; obtain⟨o2,e2,cc2,_⟩:=h2; rw[z,e'] at e2; cases e2; rw[cc] at cc2; simp at cc2
  refine xHd xId ?_;rw[Around.under_plainId xCx _];show wpAny _ A.in1 (seqItems? (.ref S)>>=_) _ _ s;refine xAc (xCu h3 rfl ?_);show wpAny _ A.in1 (tryCatch (pyNext (.ref it)) _>>=_) _ _ s;refine xAc (xHh (xIa h1 h2 (x:=u) (by simp[hu]) λg1 j1 sb=>?_));have k1:∀ {d o},d≠it->s.heap.get? d=some o->g1.get? d=some o:=λn e=>sb.extBut _ _ n e;have h31:=k1 (Ne.symm ni) h3
  have go:∀ (g:Heap) (b':Option Value) (c':Nat),(∀ v,b'=some v->isInt v)->g.get? S=some { cls:=.type "list",data:=.seq (match b' with | none=>#[] | some v=>#[v,v]) c' }->(∀ {d o},d≠S->g1.get? d=some o->g.get? d=some o)->qJ b (u::us.drop (i+1))=qJ b' (us.drop (i+1)) ->
    codeAny (model P w) A (.builtin "max.loop" ⟨[.ref it,.none,.ref S],[("default",d)]⟩) R { s with heap:=g }:=λg b' c' hb' hS kg eb=>
   ih (i+1) _ b' c' (by omega) hlt hb' (j1.at λo e=>kg ni e) (h2.at λo e=>kg na (k1 nai e)) hS λs' e1 e2 e3 e4 e5=>by
    have:=q s' e1 e2 e3 e4 λb o n1 n2 e=>e5 b o n1 n2 (kg n2 (k1 n1 e))
    rw[eb] at this;exact this
  cases b with
  | none=>
   show wpAny _ A.in1 (updateSeq S (λ_=>#[u,u])>>=_) _ _ _;refine xAc (xHb h31 rfl ?_);refine xAl ⟨plainId_quiet xCx _,go _ (some u) _ (λv z=>by cases z; exact iu) (xEh (Obj.mapSeq λ_=>#[u,u]) h31 rfl) (λn e=>(xEd _ _ (Ne.symm n)).trans e) rfl⟩
  | some v=>
   have iv:=hb v rfl;cases u with
   | int n r=>
    cases v with
    | int m t=>
     show wpAny _ A.in1 (tryCatch (holding [Value.int n r,Value.int n r] _) _>>=_) _ _ _;refine xAc (xHh (xEl ?_));show wpAny _ A.in1 (richCompare .Gt (.int n r) (.int m t)>>=_) _ _ _;refine xAc (CmpOf.ints_gt (P:=λj v=>(j=0->v=.int n r)/\(j≠0->v=.int m t)) (λj=>if j=0 then n else m) (λj v hv=>?_) 0 1 _ _ _ _ _ ⟨λ_=>rfl,λz=>xAu rfl z⟩ ⟨λz=>xAu z (by decide),λ_=>rfl⟩ ?_)
     ·by_cases hj:j=0
      ·rw[xAz hj]; exact⟨r,hv.1 hj⟩
      ·rw[xAw hj]; exact⟨t,hv.2 hj⟩
     ·refine xAc (xEl (xCf (xAc (xEm (xAl ?_)))));show wpAny _ _ (if decide (n>m)=true then _ else _) _ _ _
      by_cases hc:n>m
      ·rw[xAz (xAm hc)];refine xAc (xHb h31 rfl (xAc (xEm ?_)));exact xAl ⟨plainId_quiet xCx _,go _ (some (.int n r)) _ (λv z=>by cases z; trivial) (xEh (Obj.mapSeq λ_=>#[Value.int n r,Value.int n r]) h31 rfl) (λn e=>(xEd _ _ (Ne.symm n)).trans e) (by rw[qJ,xAz hc])⟩
      ·rw[xAw λz=>hc (xAt z)];refine xAc (xEm ?_);exact xAl ⟨plainId_quiet xCx _,go _ (some (.int m t)) _ (λv z=>by cases z; trivial) h31 (λ_ e=>e) (by rw[qJ,xAw hc])⟩
    | _=>exact iv.elim
   | _=>exact iu.elim
theorem wR:∀ {ns:List Nat}{us:List Value}{b:Option Value}{m:Nat},bU (ns.map λ(n:Nat)=>V.int (n:Int)) us->(b=none/\m=0\/∃ t,b=some (.int (m:Int) t))->∀ t0,∃ t,(qJ b us).getD (.int 0 t0)=.int ((ns.foldl max m:Nat):Int) t
 | [],us,b,m,r,hb,t0=>by
  cases r;rcases hb with⟨rfl,rfl⟩ | ⟨t,rfl⟩
  ·exact⟨t0,rfl⟩
  ·exact⟨t,rfl⟩
 | n::ns,us,b,m,r,hb,t0=>by
  cases r with
  | cons r1 r2=>
   obtain⟨t',rfl⟩:=r1;rcases hb with⟨rfl,rfl⟩ | ⟨t,rfl⟩
   ·rw[qJ,xEs,Nat.zero_max];exact wR r2 (.inr ⟨_,rfl⟩) t0
   ·rw[qJ,xEs];refine wR r2 (.inr ?_) t0
    by_cases hc:(n:Int)>m
    ·rw[xAz hc,Nat.max_eq_right (by omega)]; exact⟨_,rfl⟩
    ·rw[xAw hc,Nat.max_eq_left (by omega)]; exact⟨_,rfl⟩
theorem aDk:∀ {ns:List Nat}{us:List Value},bU (ns.map λ(n:Nat)=>V.int (n:Int)) us->∀ u∈us,isInt u
 | [],us,r,u,hu=>by cases r; cases hu
 | n::ns,us,r,u,hu=>by
  cases r with
  | cons r1 r2=>
   obtain⟨t',rfl⟩:=r1;rcases xAk.mp hu with rfl | hu
   ·trivial
   ·exact aDk r2 u hu
end
section
variable {X:Cx}
def aRz (K:Frag)(te:TE):TE:=λσ H Q=>te σ H λx H1=>∃ (a:Addr) (ns:List Nat),x=.ref a/\SqL K H1 a (ns.map λ(n:Nat)=>V.int (n:Int))/\Q (.int ((ns.foldl max 0:Nat):Int)) H1
theorem aMp {e:Expr}{te:TE}{j:Nat}{p pos kp cp:Pos}(hc:X.calm=true)(hg:Gl X "max")(hm:X.mg "max" = none)(he:PE X e te)(hst:starEach [e] X.env=(false,eval e X.env)::starEach [] X.env:=by rfl)
  (hpl:(backTo pos (starEach [e] X.env)).any (·.1)=false:=by rfl) :
  PE X (.Call (.Name "max" p) [e] [⟨some "default",.Constant (.int 0) j cp,kp⟩] pos) (aRz X.K te):=by
 intro pins s σ H Q I h;refine xBz (mV I hg hm (show bootBuiltins "max" = some (.builtin "max") by decide +kernel) ?_ (by decide) (by decide));refine callWith_builtin_kwB hpl rfl ?_
 let QA:List V->Hp->Prop:=λvs H1=>match vs with
  | [x]=>∃ (a:Addr) (ns:List Nat),x=.ref a/\SqL X.K H1 a (ns.map λ(n:Nat)=>V.int (n:Int))/\Q (.int ((ns.foldl max 0:Nat):Int)) H1
  | _=>False
 have ha:=(iB he aE hst) pos pins s σ H QA I h;rw[hst] at ha ⊢;refine evalArgs_kwB rfl (thn ha λus s1 ⟨vs,H1,I1,r,q⟩=>?_);obtain _ | ⟨x,_ | _⟩:=vs
 ·exact q.elim
 rotate_left
 ·exact q.elim
 obtain⟨a,ns,rfl,hs,q⟩:=q;obtain⟨_,rfl,r1⟩:=r.one;cases r1;refine thn ((aMo (nm:=some "default") (kpos:=kp) aN aQn) pos pins s1 σ H1 (λzs H2=>zs=[.int 0]/\H2=H1) I1 ⟨rfl,rfl⟩) λws s2 ⟨zs,H2,I2,rz,ez,eH⟩=>?_;subst ez eH;obtain⟨_,rfl,t0,rfl⟩:=rz.one;obtain⟨us,rv,pl,_⟩:=I2.list hs;obtain⟨t,ht⟩:=wR rv (.inl ⟨rfl,rfl⟩) t0;show wpAny _ _ (call (.builtin "max") [.ref a] [("default",.int 0 t0)]) _ _ _;refine xFc (xGa PySem.F.plain_max PySem.F.entry_max ?_);refine xHc (aGi _ _) ?_;show wpAny _ _ (Builtin.Builtins.bindParams "max" ["key","default"] 0 ⟨[],[("default",.int 0 t0)]⟩>>=_) _ _ _;refine xAc (xHc (show Builtin.Builtins.bindParams "max" ["key","default"] 0 ⟨[],[("default",.int 0 t0)]⟩=pure [none,some (.int 0 t0)] from rfl) (xAc (xAl (xAc (xFb pl.isList (xAc (xCc ?_)))))))
 have z1:(s2.heap.push { cls:=.type "list_iterator",data:=.fields #[.ref a,.int 0 0] }).objs.size=s2.heap.objs.size+1:=xDk ..;have it1:(s2.heap.push { cls:=.type "list_iterator",data:=.fields #[.ref a,.int 0 0] }).get? s2.heap.objs.size=some { cls:=.type "list_iterator",data:=.fields #[.ref a,.int 0 0] }:=xAq _ rfl;have up1:∀ {d o},s2.heap.get? d=some o->(s2.heap.push { cls:=.type "list_iterator",data:=.fields #[.ref a,.int 0 0] }).get? d=some o:=λe=>xAf _ e;generalize s2.heap.push { cls:=.type "list_iterator",data:=.fields #[.ref a,.int 0 0] }=g at z1 it1 up1 ⊢;have lt:∀ {d o},s2.heap.get? d=some o->d<s2.heap.objs.size:=λe=>xAp e;have nS:∀ {d o},s2.heap.get? d=some o->d≠g.objs.size:=λe z=>by have:=lt e; rw[z,z1] at this; exact xAu this (Nat.not_lt.mpr (xFi _))
 obtain⟨oa,ga,_⟩:=id pl.isList;have up2:∀ {d o},g.get? d=some o->(g.push { cls:=.type "list",data:=.seq #[] }).get? d=some o:=λe=>xAf _ e;have hS2:(g.push { cls:=.type "list",data:=.seq #[] }).get? g.objs.size=some { cls:=.type "list",data:=.seq #[] 0 }:=xAq _ rfl;refine xAl ⟨plainId_quiet xCx _,aNd (us:=us) (d:=.int 0 t0) (I.ok.hd hc) (aDk rv) (λz=>xBd (xFk _) (z.trans z1)) (nS ga) us.length 0 _ none 0 rfl (xBu _) (λ_ z=>nomatch z) ⟨_,up2 it1,rfl,rfl⟩ (pl.isList.at λo e=>up2 (up1 e)) hS2 λs' e1 e2 e3 e4 e5=>?_⟩;obtain⟨hp',gg,dd,tt,oo⟩:=s';dsimp only at e1 e2 e3 e4 e5;subst e1 e2 e3 e4;show EP X pins σ Q ((qJ none us).getD _) _;rw[ht];exact⟨.int _,H2,I2.kept (t':=s2.toks) λb o e=>e5 b o (xBd (lt e)) (nS e) (up2 (up1 e)),⟨_,rfl⟩,q⟩
def aMm (x:V)(vs:List V)(H:Hp)(Q:VK):Prop:=∃ (l:Addr) (bs:List Bool),x=.ref l/\vs=[.bl true]/\H l=some (.lst (bs.map V.bl))/\Q (.int ((bs.count true:Nat):Int)) H
def aMk (x:V)(vs:List V)(H:Hp)(Q:VK):Prop:=∃ (l:Addr) (bs:List Bool) (j:Nat),x=.ref l/\vs=[.bl true]/\H l=some (.lst (bs.map V.bl))/\bs[j]?=some true/\(∀ m,m<j->bs[m]?≠some true)/\Q (.int (j:Int)) H
theorem aLe {bs:List Bool}{us:List Value}(r:bU (bs.map V.bl) us):us=bs.map Value.bool:=by
 induction bs generalizing us with
 | nil=>cases r; rfl
 | cons b bs ih=>
  cases r with
  | cons r1 r2=>
   cases r1;rw[ih r2];rfl
def eqT:Value->Bool
 | .bool b=>b
 | _=>false
theorem aKy (bs:List Bool):∀ y∈(bs.map Value.bool).toArray,MeetsSeq.EqGives y (.bool true) (eqT y):=λy hy=>by
 obtain⟨b,_,rfl⟩:=xAo.mp (show y∈bs.map Value.bool by simpa using hy);intro prog w A E s Q q;exact SeqAt.EqAt.bool_bool (A:=A) (s:=s) b true prog w E Q (by cases b <;> exact q)
theorem aFm:MtM X "list.count" aMm:=by
 intro pins s σ H x vs v us Q I rx rv h;obtain⟨l,bs,rfl,rfl,hH,q⟩:=h;cases rx;obtain⟨u,rfl,ru⟩:=rv.one;cases ru;obtain⟨z,its,n,r,hl,e⟩:=I.lstM hH
 have:=aLe r
 subst this;refine call_meets F.slot_list_count ⟨_,e,rfl⟩ F.entry_list_count (F.args_list_count_2 _ _) (MeetsSeq.list_count l _ n (.bool true) eqT (aKy bs)) ⟨e,.int _,H,I.tok _,⟨_,rfl⟩,?_⟩;rw[List.countP_map,show bs.countP (eqT∘Value.bool)=bs.count true from List.countP_congr λb _=>by cases b <;> simp[eqT]]
 exact q
theorem aFl:MtM X "list.index" aMk:=by
 intro pins s σ H x vs v us Q I rx rv h;obtain⟨l,bs,j,rfl,rfl,hH,hj,hm,q⟩:=h;cases rx;obtain⟨u,rfl,ru⟩:=rv.one;cases ru;obtain⟨z,its,n,r,hl,e⟩:=I.lstM hH
 have:=aLe r
 subst this;have sl:sizeLine=16777216:=sizeLine_eq;have hjl:=(xAd.mp hj).1;rw[xAa] at z;refine call_meets F.slot_list_index ⟨_,e,rfl⟩ F.entry_list_index (F.args_list_index_2 _ _) (MeetsSeq.list_index l _ n (.bool true) eqT (aKy bs) j (by simpa using hjl) (by omega) ?_ λm h1 h2=>?_) ⟨e,.int _,H,I.tok _,⟨_,rfl⟩,q⟩
 ·have:=(xAd.mp hj).2
  simp[this,eqT]
 ·have hml:m<bs.length:=by simpa using h1
  have:=hm m h2
  rw[xAi hml] at this;cases hb:bs[m] with
  | true=>rw[hb] at this; exact xAu rfl this
  | false=>simp[hb,eqT]
end
end L2
namespace RW
def mixed (c k:Int):Int:=(((c+7919*k)*48271%2147483647)*((c+7919*k)*48271%2147483647+2*k+1))%2147483629
def cellAt (ns:List Int)(k:Nat):Int:=match ns[k]? with | some c=>mixed c k | none=>0
theorem aKe (c k:Int):0<=mixed c k:=Int.emod_nonneg _ (by decide)
theorem cellAt_lo (ns:List Int)(k:Nat):0<=cellAt ns k:=by
 unfold cellAt;split
 ·exact aKe _ _
 ·decide
end RW
namespace KM
variable {α:Type} [DecidableEq α]
end KM
namespace Ky
open PySem L2 PySem.Spec PyProof.Rows PySem.W
abbrev iY:Str:="abcdefghijklmnopqrstuvwxyz"
abbrev jY:Str:="0123456789"
theorem aBh:iY.cps.toList=List.range' 97 26:=by decide +kernel
theorem aBo:jY.cps.toList=List.range' 48 10:=by decide +kernel
def kY (c:Nat):Bool:=decide (97<=c/\c<123)
def aKo (c:Nat):Bool:=decide (48<=c/\c<58)
def mY (c:Nat):Bool:=kY c||aKo c
theorem pW (c:Nat):decide (c∈iY.cps.toList)=kY c:=by
 rw[aBh];unfold kY;rw[xGy,List.mem_range'_1]
theorem yH (c:Nat):decide (c∈jY.cps.toList)=aKo c:=by
 rw[aBo];unfold aKo;rw[xGy,List.mem_range'_1]
theorem tD (x y:Str):(x++y).cps.toList=x.cps.toList++y.cps.toList:=by
 show (x.cps++y.cps).toList=_
 simp
theorem iC (x y:Str):(x++y).length=x.length+y.length:=by
 have ln:∀ z:Str,z.cps.toList.length=z.length:=λz=>by simp[Str.length]
 rw[<- ln,tD,xAn,ln,ln]
theorem aFn (c:Nat):decide (c∈(iY++jY).cps.toList)=mY c:=by
 unfold mY;rw[<- pW,<- yH,tD,<- Bool.decide_or,xGy,xBy]
def oG (cs:List Nat):Bool:=decide (1<=cs.length/\cs.length<=8)&&(match cs with | []=>false | c::_=>kY c)&&cs.all mY
def aU (z:Str):Bool:=oG z.cps.toList
theorem oE {z:Str}(h:aU z=true):z.length<=8:=by
 unfold aU oG at h;rw[xBh,xBh] at h
 have:=xAt h.1.1
 have hl:z.cps.toList.length=z.length:=by simp[Str.length]
 omega
inductive Why | noName | noDeed | twice | tooMany
 deriving DecidableEq
def tO:List Str->List Str->Option Why
 | _,[]=>none
 | seen,n::r=>if aU n=true then (if n∈seen then some .twice else tO (seen++[n]) r) else some .noName
def iU (ss:List Str):Option Why:=if 12<ss.length then some .tooMany else tO [] ss
def lC (ss fs:List Str):Option Why:=match iU ss with
 | some k=>some k
 | none=>if fs.all (λf=>aU f&&decide (f∈ss))=true then none else some .noDeed
def wts:List Str->Int->List (Key×V)->List (Key×V)
 | [],_,k=>k
 | s::r,w,k=>wts r (w*2) (eX k (Sum.inr s) (.int w))
def mks:List Str->List (Key×V)->List (Key×V)
 | [],k=>k
 | s::r,k=>mks r (eX k (Sum.inr s) (.bl true))
inductive vH (vs:List V)(H:Hp)(Q:VK)(x3_:XK):Prop
 | mk (c k:Int)(h0_:vs=[.int c,.int k])(h1_:Q (.int (RW.mixed c k)) H)
inductive aHc (K:xAb)(vs:List V)(H:Hp)(Q:VK)(x3_:XK):Prop
 | mk (a:Addr)(ns:List Int)(k:Nat)(h0_:vs=[.ref a,.int k])(h1_:SqL K H a (ns.map V.int))(h2_:Q (.int (RW.cellAt ns k)) H)
inductive rK (K:xAb)(vs:List V)(H:Hp)(Q:VK)(x3_:XK):Prop
 | mk (x:_)(h0_:vs=[x])(h1_:((∃ z,x=.str z/\z.length<=sizeLine/\∀ H',aM H H'->Q (.bl (aU z)) H')\/∃ t,jD K H x t/\kitOne K t (.type "str")=some false/\Q (.bl false) H))
def ways (cl:Why->Addr)(r:Option Why)(q:Prop)(E:XK)(H:Hp):Prop:=match r with
 | none=>q
 | some k=>E (.ref (cl k)) none H
def dR (ss:List Str):Prop:=∀ z∈ss,z.length<=1000
inductive xE (K:xAb)(cl:Why->Addr)(vs:List V)(H:Hp)(Q:VK)(E:XK):Prop
 | mk (a:Addr)(ss:List Str)(h0_:vs=[.ref a])(h1_:SqL K H a (ss.map V.str))(h2_:dR ss)(h3_:∀ H',aM H H'->ways cl (iU ss) (Q .non H') E H')
inductive uA (K:xAb)(vs:List V)(H:Hp)(Q:VK)(x3_:XK):Prop
 | mk (a:Addr)(ss:List Str)(h0_:vs=[.ref a])(h1_:SqL K H a (ss.map V.str))(h2_:ss.length<64)(h3_:∀ (d:Addr) (ss':List Str) H',aM H H'->H d=none->ss'.Perm ss->sortedS ss'=true->H' d=some (.dK (wts ss' 1 []))->Q (.ref d) H')
inductive qN (K:xAb)(vs:List V)(H:Hp)(Q:VK)(x3_:XK):Prop
 | mk (a:Addr)(ss:List Str)(h0_:vs=[.ref a])(h1_:SqL K H a (ss.map V.str))(h2_:ss.length<=1000)(h3_:∀ (d:Addr) H',aM H H'->H d=none->H' d=some (.dK (mks ss []))->Q (.ref d) H')
abbrev aKc:List Str:=["has","require","names","free","is_free","bits","names_of"]
inductive WAt (C:Addr)(H:Hp)(p:Addr)(kvs:List (Key×V)):Prop
 | mk (dx:_)(fs:_)(dw:_)(o:_)(h0_:H p=some (.ins C dx fs))(h1_:(∀ m∈aKc,fs.lookup m=none))(h2_:fs.lookup ("weights" : Str)=some (.ref dw))(h3_:H dw=some (.frz o (.dK kvs)))
def aDy (x:V):Prop:=(∃ z:Str,x=.str z/\z.length<=1000)\/x=.non\/x=.int 5
def cZ (kvs:List (Key×V)):V->Bool
 | .str z=>aU z&&(dE kvs (Sum.inr z)).isSome
 | _=>false
inductive aOn (K:xAb)(C:Addr)(vs:List V)(H:Hp)(Q:VK)(x3_:XK):Prop
 | mk (p:Addr)(x:V)(kvs:List (Key×V))(h0_:vs=[.ref p,x])(h1_:aDy x)(h2_:WAt C H p kvs)(h3_:∀ H',aM H H'->Q (.bl (cZ kvs x)) H')
inductive iE (K:xAb)(C:Addr)(cl:Why->Addr)(vs:List V)(H:Hp)(Q:VK)(E:XK):Prop
 | mk (p b:Addr)(xs:List V)(kvs:List (Key×V))(h0_:vs=[.ref p,.ref b])(h1_:SqL K H b xs)(h2_:(∀ x∈xs,aDy x))(h3_:WAt C H p kvs)(h4_:∀ H',aM H H'->ways cl (if xs.all (cZ kvs)=true then none else some .noDeed) (Q .non H') E H')
def SameBut (x:Addr)(H H':Hp):Prop:=∀ b o,b≠x->H b=some o->H' b=some o
inductive zQ (K:xAb)(C:Addr)(cl:Why->Addr)(vs:List V)(H:Hp)(Q:VK)(E:XK):Prop
 | mk (x a:Addr)(y:V)(dx:Addr)(ss fs:List Str)(h0_:vs=[.ref x,.ref a,y])(h1_:H x=some (.ins C dx []))(h2_:SqL K H a (ss.map V.str))(h3_:((y=.non/\fs=[])\/∃ b,y=.ref b/\SqL K H b (fs.map V.str)))(h4_:dR ss)(h5_:dR fs)(h6_:fs.length<=1000)(h7_:∀ H',SameBut x H H'->ways cl (lC ss fs) (∀ (dw df:Addr) (o:Obj) (ss':List Str),H' x=some (.ins C dx [("weights",.ref dw),("free_marks",.ref df)])->H' dw=some (.frz o (.dK (wts ss' 1 [])))->H' df=some (.dK (mks fs []))->ss'.Perm ss->sortedS ss'=true->Q .non H') E H')
section
variable {P:Program}{w:World}{K:xAb}{mg:xSO}{base:Heap}
theorem okE {x qual:Str}{st:Stmt}{f:Addr}{fd:FuncData}{N ps:List Str}{k:Nat}{sp:Sp}(F:Fun K x qual st f fd)(S:aO N ps (aA st))(len:∀ vs H Q E,sp vs H Q E->vs.length=ps.length)
  (hbody:∀ (cdv:Value) (A:Around) (outer:List Env) (s:Shared) (H:Hp) (vs:List V) (Q:VK) (E:XK),bY k (A.deeper (envOfC qual (aA st) s.heap.objs.size f cdv))->sp vs H Q E ->
   (jJ (CXE P w) P w K mg base N qual (aA st) f cdv A outer s H E).Body E ->
   ∃ t,PSs (jJ (CXE P w) P w K mg base N qual (aA st) f cdv A outer s H E) (aF st) t/\t { nx:=λ_ H'=>Q .non H',rt:=Q } (gM N vs) H):aP P w K mg base (CXE P w) (k+1) f fd ps sp:=by
 obtain⟨oc,od,kV,doc,pm,an,cdv,ct,osl,rfl,lk,hcd⟩:=F.ex;exact aDn lk hcd S len λA outer s H vs Q E hr hsp=>hbody cdv A outer s H vs Q E hr hsp qV
structure aLr (K:xAb)(x qual:Str)(st:Stmt)(f:Addr)(fd:FuncData):Prop where
 ex:∃ (oc:Value) (od:Option Addr) (dV kV doc pm:Value) (an:Option Addr) (cdv ct:Value) (osl:xAO),
  fd=fnOf x qual (aG st) (aF st) (aA st) dV kV doc pm an cdv ct/\K.lookup f=some ⟨oc,od,.func fd,osl⟩/\codeIn K cdv qual=true
 kp:keepIn K (.ref f)=true
theorem aSw {x qual:Str}{st:Stmt}{f:Addr}{fd:FuncData}{N ps:List Str}{k:Nat}{sp:Sp}(F:aLr K x qual st f fd)(S:aO N ps (aA st))(len:∀ vs H Q E,sp vs H Q E->vs.length=ps.length)
  (hbody:∀ (cdv:Value) (A:Around) (outer:List Env) (s:Shared) (H:Hp) (vs:List V) (Q:VK) (E:XK),bY k (A.deeper (envOfC qual (aA st) s.heap.objs.size f cdv))->sp vs H Q E ->
   (jJ (CXE P w) P w K mg base N qual (aA st) f cdv A outer s H E).Body E ->
   ∃ t,PSs (jJ (CXE P w) P w K mg base N qual (aA st) f cdv A outer s H E) (aF st) t/\t { nx:=λ_ H'=>Q .non H',rt:=Q } (gM N vs) H):aP P w K mg base (CXE P w) (k+1) f fd ps sp:=by
 obtain⟨oc,od,dV,kV,doc,pm,an,cdv,ct,osl,rfl,lk,hcd⟩:=F.ex;exact aDn lk hcd S len λA outer s H vs Q E hr hsp=>hbody cdv A outer s H vs Q E hr hsp qV
end
abbrev Dr:=Str×Str×Str
structure eD (H:Hp)(d:Addr)(ds:List Dr):Prop where
 ex:∃ ts:List Addr,H d=some (.lst (ts.map V.ref))/\ts.length=ds.length/\∀ (i:Nat) (t:Addr) (x:Dr),ts[i]?=some t->ds[i]?=some x->H t=some (.tup [.str x.1,.str x.2.1,.str x.2.2])
theorem eD.same {H H':Hp}{d:Addr}{ds:List Dr}(D:eD H d ds)(sm:aM H H'):eD H' d ds:=by
 obtain⟨ts,h1,h2,h3⟩:=D.ex;exact⟨ts,sm _ _ h1,h2,λi t x a b=>sm _ _ (h3 i t x a b)⟩
theorem smu {H:Hp}{p:Addr}{o:HO}(h:H p=none):aM H (upd H p o):=λb u e=>by
 rw[aH (aI e h)];exact e
theorem jN {n:Nat}(h:n<=16000000):n<=sizeLine:=xAs h (by decide)
def eJ (ds:List Dr):List Str:=ds.flatMap λx=>[x.1,x.2.2]
def cJ (b:Str)(es:List Str)(ds:List Dr):List Str:=b::es++eJ ds
theorem sW {ds:List Dr}{i:Nat}{x:Dr}(h:ds[i]?=some x):eJ (ds.take (i+1))=eJ (ds.take i)++[x.1]++[x.2.2]:=by
 unfold eJ;rw[xBo,h]
 simp
theorem mI (ds:List Dr):(eJ ds).length=2*ds.length:=by
 induction ds with
 | nil=>rfl
 | cons x r ih => 
  have e:eJ (x::r)=[x.1,x.2.2]++eJ r:=rfl;have h2:([x.1,x.2.2]:List Str).length=2:=rfl;rw[e,xAn,ih,h2,xBf];omega
inductive aCh (vs:List V)(H:Hp)(Q:VK)(E:XK):Prop
 | mk (b:Str)(e d:Addr)(es:List Str)(ds:List Dr)(h0_:vs=[.str b,.ref e,.ref d])(h1_:H e=some (.lst (es.map V.str)))(h2_:eD H d ds)(h3_:es.length<=1000)(h4_:ds.length<=1000)
  (h5_:∀ (p:Addr) H',aM H H'->H p=none->H' p=some (.lst ((cJ b es ds).map V.str))->Q (.ref p) H')
def iQ (ss:List Str):Option Why:=if ss.all aU=true then none else some .noName
inductive rJ (K:xAb)(cl:Why->Addr)(vs:List V)(H:Hp)(Q:VK)(E:XK):Prop
 | mk (a:Addr)(ss:List Str)(h0_:vs=[.ref a])(h1_:SqL K H a (ss.map V.str))(h2_:dR ss)(h3_:∀ H',aM H H'->ways cl (iQ ss) (Q .non H') E H')
theorem tS {ss:List Str}{i:Nat}(h:(ss.take i).all aU=true):iQ ss=iQ (ss.drop i):=by
 unfold iQ
 have e:ss.all aU=(ss.drop i).all aU:=by
  conv=>lhs; rw[<- List.take_append_drop i ss]
  rw[xHf,h,xGr]
 rw[e]
def inn (ds:List Dr)(z:Str):List (Key×V):=ds.filterMap λx=>if x.1=z then some (Sum.inr x.2.1,V.str x.2.2) else none
theorem aNn (ds:List Dr)(z:Str):(inn ds z).length<=ds.length:=xHp ..
theorem yM {ds:List Dr}{i:Nat}{x:Dr}(h:ds[i]?=some x)(z:Str):inn (ds.take (i+1)) z=inn (ds.take i) z++(if x.1=z then [(Sum.inr x.2.1,V.str x.2.2)] else []):=by
 unfold inn;rw[xBo,h,xFy]
 by_cases e:x.1=z
 ·simp[e]
 ·simp[e]
theorem aEa {kvs:List (Key×V)}{k:Key}(h:∀ p∈kvs,p.1≠k):dE kvs k=none:=by
 unfold dE;rw[List.find?_eq_none.mpr (λp hp=>by simpa using h p hp)];rfl
theorem yN {ds:List Dr}{z y:Str}(h:∀ x∈ds,x.1=z->x.2.1≠y):dE (inn ds z) (Sum.inr y)=none:=by
 refine aEa λp hp=>?_;obtain⟨x,hx,e⟩:=xDa.mp hp
 by_cases ez:x.1=z
 ·rw[xAz ez] at e;cases e;exact λq=>h x hx ez (Sum.inr.inj q)
 ·rw[xAw ez] at e;cases e
def Apart (ds:List Dr):Prop:=(ds.map λx=>(x.1,x.2.1)).Nodup
theorem Apart.at {ds:List Dr}(h:Apart ds){i:Nat}{x:Dr}(hx:ds[i]?=some x):∀ y∈ds.take i,y.1=x.1->y.2.1≠x.2.1:=by
 intro y hy e1 e2;obtain⟨j,hj,ej⟩:=xDu.mp hy;rw[xBb] at hj;have hi:i<ds.length:=(xAd.mp hx).1;have hji:j<i:=by omega
 have ey:ds[j]?=some y:=by
  rw[List.getElem_take] at ej;rw[xAi (by omega),ej]
 have:=(xEe (i:=j) (j:=i) (by rw[xAa]; omega) h).mp (by rw[xAj,xAj,ey,hx]; show some (y.1,y.2.1)=some (x.1,x.2.1); rw[e1,e2])
 omega
theorem lJ (kvs:List (Key×V))(k:Key):(kvs.any λkv=>decide (kv.1=k))=(kvs.map (·.1)).any λj=>decide (j=k):=by
 rw[List.any_map];rfl
theorem aEj {kvs kvs':List (Key×V)}(k:Key)(v v':V)(h:kvs.map (·.1)=kvs'.map (·.1)):(eX kvs k v).map (·.1)=(eX kvs' k v').map (·.1):=by
 have m:∀ (l:List (Key×V)) (u:V),(l.map λkv=>if kv.1=k then (kv.1,u) else kv).map (·.1)=l.map (·.1):=λl u=>by
  rw[xDb];refine xGj λp _=>?_;show (if p.1=k then (p.1,u) else p).1=p.1
  split <;> rfl
 unfold eX;rw[lJ,lJ,h]
 by_cases q:((kvs'.map (·.1)).any λj=>decide (j=k))=true
 ·rw[xAz q,xAz q,m,m,h]
 ·rw[xAw q,xAw q,xAx,xAx,h];rfl
theorem yE:∀ (a:List Str) (z:Str) (k:List (Key×V)),mks (a++[z]) k=eX (mks a k) (Sum.inr z) (.bl true)
 | [],z,k=>rfl
 | s::r,z,k=>yE r z _
structure eB (H:Hp)(l:Addr)(rs:List Str)(ds:List Dr)(kvs:List (Key×V))(g:Str->Addr):Prop where
 dk:H l=some (.dK kvs)
 keys:kvs.map (·.1)=(mks rs []).map (·.1)
 val:∀ z∈rs,dE kvs (Sum.inr z)=some (.ref (g z))
 dd:∀ z∈rs,H (g z)=some (.dK (inn ds z))
 inj:∀ z∈rs,∀ y∈rs,g z=g y->z=y
 ne:∀ z∈rs,g z≠l
theorem eB.same {H H':Hp}{l:Addr}{rs:List Str}{ds:List Dr}{kvs:List (Key×V)}{g:Str->Addr}(L:eB H l rs ds kvs g)(sm:aM H H'):eB H' l rs ds kvs g:=
 ⟨sm _ _ L.dk,L.keys,L.val,λz hz=>sm _ _ (L.dd z hz),L.inj,L.ne⟩
theorem eB.more {H:Hp}{l d:Addr}{rs:List Str}{kvs:List (Key×V)}{g:Str->Addr}(L:eB H l rs [] kvs g)(hd:H d=none)(z:Str) :
  eB (upd (upd H d (.dK [])) l (.dK (eX kvs (Sum.inr z) (.ref d)))) l (rs++[z]) [] (eX kvs (Sum.inr z) (.ref d)) (λy=>if y=z then d else g y):=by
 have dl:d≠l:=λe=>by rw[e,L.dk] at hd; cases hd
 have gd:∀ y∈rs,g y≠d:=λy hy e=>by have:=L.dd y hy; rw[e,hd] at this; cases this
 have mem:∀ y∈rs++[z],y≠z->y∈rs:=λy hy n=>(xBy.mp hy).resolve_right λq=>n (xAg.mp q);refine⟨aD,?_,λy hy=>?_,λy hy=>?_,λy hy x hx e=>?_,λy hy=>?_⟩
 ·rw[yE]; exact aEj _ _ _ L.keys
 ·rw[nG]
  by_cases e:y=z
  ·subst e;rw[xAz rfl,xAz rfl]
  ·rw[xAw (λq=>e (Sum.inr.inj q)),xAw e];exact L.val y (mem y hy e)
 ·by_cases e:y=z
  ·subst e;rw[xAz rfl,aH dl,aD];rfl
  ·rw[xAw e,aH (L.ne y (mem y hy e)),aH (gd y (mem y hy e))];exact L.dd y (mem y hy e)
 ·by_cases e1:y=z
  ·by_cases e2:x=z
   ·rw[e1,e2]
   ·rw[xAz e1,xAw e2] at e;exact xAu e.symm (gd x (mem x hx e2))
  ·by_cases e2:x=z
   ·rw[xAw e1,xAz e2] at e;exact xAu e (gd y (mem y hy e1))
   ·rw[xAw e1,xAw e2] at e;exact L.inj y (mem y hy e1) x (mem x hx e2) e
 ·by_cases e:y=z
  ·rw[xAz e]; exact dl
  ·rw[xAw e]; exact L.ne y (mem y hy e)
theorem eB.door {H:Hp}{l:Addr}{rs:List Str}{ds:List Dr}{kvs:List (Key×V)}{g:Str->Addr}{i:Nat}{x:Dr}(L:eB H l rs (ds.take i) kvs g)(hx:ds[i]?=some x)(hr:x.1∈rs)(ha:Apart ds) :
  eB (upd H (g x.1) (.dK (eX (inn (ds.take i) x.1) (Sum.inr x.2.1) (.str x.2.2)))) l rs (ds.take (i+1)) kvs g:=by
 refine⟨?_,L.keys,L.val,λz hz=>?_,L.inj,L.ne⟩
 ·rw[aH (Ne.symm (L.ne _ hr))]; exact L.dk
 ·by_cases e:z=x.1
  ·subst e;rw[aD,yM hx,xAz rfl,aIa _ (yN (ha.at hx))]
  ·rw[aH (λq=>e (L.inj z hz _ hr q)),yM hx,xAw (λq=>e q.symm),xBk];exact L.dd z hz
inductive aCl (K:xAb)(vs:List V)(H:Hp)(Q:VK)(E:XK):Prop
 | mk (a d:Addr)(rs:List Str)(ds:List Dr)(h0_:vs=[.ref a,.ref d])(h1_:SqL K H a (rs.map V.str))(h2_:eD H d ds)(h3_:rs.length<=4000)(h4_:ds.length<=1000)(h5_:∀ x∈ds,x.1∈rs)(h6_:Apart ds)
  (h7_:∀ (l:Addr) (kvs:List (Key×V)) (g:Str->Addr) H',aM H H'->H l=none->(∀ z∈rs,H (g z)=none)->eB H' l rs ds kvs g->Q (.ref l) H')
theorem aDa {X:Cx}{st:Stmt}:PS X st (λ_ _ _=>False):=λ_ _ _ _ _ _ h=>h.elim
def dO (ds:List Dr)(ms:List Str):List Str:=ds.map (·.2.1)++ms
abbrev aPa:List Str:=["deeds","begin","rooms","ends","knows","require_room","at","to","is_end","goes","behind"]
abbrev aPb (l dd e k:Addr)(b:Str):List (Str×V):=[("leads",.ref l),("deeds_made_of",.ref dd),("first_room",.str b),("end_marks",.ref e),("known_marks",.ref k)]
theorem gD (l dd e k:Addr)(b:Str):∀ m∈aPa,(aPb l dd e k b).lookup m=none:=by
 have h:∀ m∈aPa,(m==("leads" : Str))=false/\(m==("deeds_made_of" : Str))=false/\(m==("first_room" : Str))=false/\(m==("end_marks" : Str))=false/\(m==("known_marks" : Str))=false:=by decide +kernel
 intro m hm;obtain⟨h1,h2,h3,h4,h5⟩:=h m hm;simp only[List.lookup,h1,h2,h3,h4,h5]
structure MAt (CM:Addr)(H:Hp)(x dx l dd e k:Addr)(b:Str)(es kn:List Str)(ds:List Dr)(kvs:List (Key×V))(g:Str->Addr):Prop where
 ins:H x=some (.ins CM dx (aPb l dd e k b))
 lead:eB H l (cJ b es ds) ds kvs g
 ends:H e=some (.dK (mks es []))
 know:H k=some (.dK (mks kn []))
theorem MAt.same {CM:Addr}{H H':Hp}{x dx l dd e k:Addr}{b:Str}{es kn:List Str}{ds:List Dr}{kvs:List (Key×V)}{g:Str->Addr}(M:MAt CM H x dx l dd e k b es kn ds kvs g)(sm:aM H H'):MAt CM H' x dx l dd e k b es kn ds kvs g:=
 ⟨sm _ _ M.ins,M.lead.same sm,sm _ _ M.ends,sm _ _ M.know⟩
structure nA (K:xAb)(CM:Addr):Prop where
 cl:Cls K CM
 nl:dB K CM "leads"
 nd:dB K CM "deeds_made_of"
 nf:dB K CM "first_room"
 ne:dB K CM "end_marks"
 nk:dB K CM "known_marks"
inductive nJ (K:xAb)(C CM:Addr)(vs:List V)(H:Hp)(Q:VK)(E:XK):Prop
 | mk (x dd e d dx:Addr)(b:Str)(y:V)(es ms:List Str)(ds:List Dr)(wk:List (Key×V))(h0_:vs=[.ref x,.ref dd,.str b,.ref e,.ref d,y])(h1_:H x=some (.ins CM dx []))(h2_:WAt C H dd wk)
  (h3_:H e=some (.lst (es.map V.str)))(h4_:eD H d ds)(h5_:(y=.non/\ms=[])\/∃ m,y=.ref m/\H m=some (.lst (ms.map V.str)))
  (h6_:es.length<=200/\ds.length<=800/\ms.length<=200)(h7_:(cJ b es ds).all aU=true)(h8_:((dO ds ms).map V.str).all (cZ wk)=true)(h9_:dR (dO ds ms))(h10_:Apart ds)(h11_:(mks (cJ b es ds) []).length<=60)
  (h12_:∀ (l e' k:Addr) (kvs:List (Key×V)) (g:Str->Addr) H',SameBut x H H'->MAt CM H' x dx l dd e' k b es (dO ds ms) ds kvs g->Q .non H')
theorem rM {ss:List Str}(h:ss.all aU=true):dR ss:=λz hz=>xAs (oE (xBn.mp h z hz)) (by decide)
theorem aKz {b:Str}{es:List Str}{ds:List Dr}:∀ x∈ds,x.1∈cJ b es ds:=λx hx=>xBp _ (xBl.mpr ⟨x,hx,by simp⟩)
theorem xL (b:Str)(es:List Str)(ds:List Dr):(cJ b es ds).length=1+es.length+2*ds.length:=by
 unfold cJ;rw[xAn,mI,xBf];omega
inductive MM (CM:Addr)(H:Hp)(x dd:Addr)(b:Str)(es kn:List Str)(ds:List Dr):Prop
 | mk (dx l e k:Addr)(kvs:List (Key×V))(g:Str->Addr)(m:MAt CM H x dx l dd e k b es kn ds kvs g)
theorem MM.same {CM:Addr}{H H':Hp}{x dd:Addr}{b:Str}{es kn:List Str}{ds:List Dr}(M:MM CM H x dd b es kn ds)(sm:aM H H'):MM CM H' x dd b es kn ds:=by
 obtain⟨dx,l,e,k,kvs,g,m⟩:=M;exact⟨dx,l,e,k,kvs,g,m.same sm⟩
def lB (ds:List Dr)(z y:Str):Option Str:=(ds.find? λx=>decide (x.1=z)&&decide (x.2.1=y)).map (·.2.2)
theorem aNl {x:Dr}{r:List Dr}{z:Str}(e:x.1=z):inn (x::r) z=(Sum.inr x.2.1,V.str x.2.2)::inn r z:=by simp[inn,e]
theorem aNm {x:Dr}{r:List Dr}{z:Str}(e:¬ x.1=z):inn (x::r) z=inn r z:=by simp[inn,e]
theorem aNk (ds:List Dr)(z y:Str):dE (inn ds z) (Sum.inr y)=(lB ds z y).map V.str:=by
 induction ds with
 | nil=>rfl
 | cons x r ih=>
  unfold lB at ih ⊢;rw[xCw]
  by_cases e:x.1=z
  ·rw[aNl e]
   by_cases e2:x.2.1=y
   ·rw[eE (by show Sum.inr x.2.1=_; rw[e2]),xAm e,xAm e2];rfl
   ·have:dE ((Sum.inr x.2.1,V.str x.2.2)::inn r z) (Sum.inr y)=dE (inn r z) (Sum.inr y):=by
     unfold dE;rw[xCw,xBc (λq=>e2 (Sum.inr.inj q))]
    rw[this,ih,xAm e,xBc e2];rfl
  ·rw[aNm e,xBc e,xEz,ih]
inductive xH (CM:Addr)(vs:List V)(H:Hp)(Q:VK)(E:XK):Prop
 | mk (x dd:Addr)(b:Str)(es kn:List Str)(ds:List Dr)(h0_:vs=[.ref x])(h1_:MM CM H x dd b es kn ds)(h2_:Q (.str b) H)
def oV (o:Option Str):V:=(o.map V.str).getD .non
def gZ (ds:List Dr)(kn:List Str)(z y:Str):Option Str:=if y∈kn then lB ds z y else some z
inductive vI (CM:Addr)(vs:List V)(H:Hp)(Q:VK)(E:XK):Prop
 | mk (x dd:Addr)(b z y:Str)(es kn:List Str)(ds:List Dr)(h0_:vs=[.ref x,.str z,.str y])(h1_:MM CM H x dd b es kn ds)(h2_:z∈cJ b es ds)(h3_:Q (oV (gZ ds kn z y)) H)
def walk (ds:List Dr)(kn:List Str)(z:Str):List Str->Option Str
 | []=>some z
 | y::r=>match gZ ds kn z y with
  | none=>none
  | some z'=>walk ds kn z' r
inductive uE (K:xAb)(C CM:Addr)(cl:Why->Addr)(vs:List V)(H:Hp)(Q:VK)(E:XK):Prop
 | mk (x dd a:Addr)(b:Str)(es kn rw:List Str)(ds:List Dr)(wk:List (Key×V))(h0_:vs=[.ref x,.ref a])(h1_:MM CM H x dd b es kn ds)(h2_:WAt C H dd wk)(h3_:SqL K H a (rw.map V.str))(h4_:dR rw)(h5_:(cJ b es ds).all aU=true)
  (h6_:∀ H',aM H H'->ways cl (if (rw.map V.str).all (cZ wk)=true then none else some .noDeed) (Q (oV (walk ds kn b rw)) H') E H')
theorem aBq {ds:List Dr}{b:Str}{es:List Str}{z y u:Str}(h:lB ds z y=some u):u∈cJ b es ds:=by
 unfold lB at h;obtain⟨x,hx,rfl⟩:=xFn.mp h;exact xBp _ (xBl.mpr ⟨x,xEy hx,by simp⟩)
theorem yP {ds:List Dr}{kn:List Str}{b:Str}{es:List Str}{z y u:Str}(hz:z∈cJ b es ds)(h:gZ ds kn z y=some u):u∈cJ b es ds:=by
 unfold gZ at h
 by_cases q:y∈kn
 ·rw[xAz q] at h; exact aBq h
 ·rw[xAw q] at h; cases h; exact hz
theorem eD.push {H:Hp}{d t:Addr}{ds:List Dr}(D:eD H d ds)(ht:H t=none)(x:Dr):∃ xs,H d=some (.lst xs)/\xs.length=ds.length/\eD (upd (upd H t (.tup [.str x.1,.str x.2.1,.str x.2.2])) d (.lst (xs++[.ref t]))) d (ds++[x]):=by
 obtain⟨ts,h1,h2,h3⟩:=D.ex;refine⟨_,h1,by rw[xAa,h2],⟨ts++[t],?_,?_,λi u y hu hy=>?_⟩⟩
 ·rw[aD,xAx]; rfl
 ·rw[xAn,xAn,h2]; rfl
 ·by_cases hi:i<ts.length
  ·rw[xBw hi] at hu;rw[xBw (by rw[<- h2]; exact hi)] at hy;have e:=h3 i u y hu hy;rw[aH (λz=>by rw[z,h1] at e; cases e),aH (aI e ht)];exact e
  ·have hl:i=ts.length:=by
    have:=(xAd.mp hu).1
    rw[xAn] at this;simp only[List.length_cons,List.length_nil] at this;omega
   subst hl;rw[xCb (xAh _),xEx] at hu;rw[h2,xCb (xAh _),xEx] at hy;cases hu;cases hy;rw[aH (λz=>by rw[z,h1] at ht; cases ht),aD]
end Ky
namespace K34
open PySem L2 Ky PySem.W
seal L2.PE L2.PS L2.PSs L2.PA L2.PT L2.PW L2.PG L2.PI L2.PTs L2.PO L2.OpR L2.IxR L2.CallR L2.MtM L2.MtR
def top (i:Nat):Stmt:=PySem.Challenge.pw_roomward_k34_rules_refused.main.body.getD i (.Pass ⟨0,0,0,0⟩)
abbrev nL:Stmt:=top 14
abbrev vO:Stmt:=top 15
abbrev rO:Stmt:=top 16
abbrev aAa:Stmt:=top 17
abbrev aAe:Stmt:=top 18
abbrev zY:Stmt:=top 21
abbrev oX:Stmt:=top 22
abbrev aAb:Stmt:=top 23
abbrev gX:Stmt:=top 24
abbrev vN:Stmt:=top 26
abbrev vR:Stmt:=top 27
abbrev nO:Stmt:=top 30
abbrev vQ:Stmt:=top 31
abbrev nQ:Stmt:=top 32
abbrev rS:Stmt:=top 33
abbrev jO:Stmt:=top 34
abbrev nM:Stmt:=top 35
abbrev zW:Stmt:=top 40
abbrev aSp:Stmt:=top 41
abbrev zX:Stmt:=top 42
abbrev aHo:Stmt:=top 43
abbrev aHn:Stmt:=top 44
abbrev aHv:Stmt:=top 45
abbrev aHm:Stmt:=top 46
abbrev aOs:Stmt:=top 47
abbrev aCw:Stmt:=top 48
abbrev aMf:Stmt:=top 49
abbrev aAc:Stmt:=top 50
abbrev rR:Stmt:=top 52
abbrev aHs:Stmt:=top 53
abbrev kP:Stmt:=top 54
abbrev nN:Stmt:=top 55
abbrev vM:Stmt:=top 56
abbrev aAd:Stmt:=top 57
abbrev aQh:Stmt:=top 58
abbrev aHq:Stmt:=top 59
abbrev aHp:Stmt:=top 60
abbrev aHu:Stmt:=top 61
abbrev aAf:Stmt:=top 62
abbrev aHr:Stmt:=top 63
abbrev rP:Stmt:=top 64
abbrev vP:Stmt:=top 65
abbrev aHl:Stmt:=top 66
abbrev sBy:Stmt:=top 67
abbrev aHt:Stmt:=top 68
abbrev aQi:Stmt:=top 69
abbrev iI:Stmt:=aB aAe 0
abbrev aMe:Stmt:=aB aAe 3
abbrev rQ:Stmt:=aB aAe 4
abbrev hZ:Stmt:=aB gX 0
abbrev aBf:Stmt:=aB gX 1
abbrev aBg:Stmt:=aB gX 2
abbrev aBd:Stmt:=aB gX 5
abbrev sM:Stmt:=aB gX 6
abbrev aBe:Stmt:=aB gX 9
abbrev aKg:Stmt:=aB gX 10
abbrev wF:Stmt:=aB gX 11
abbrev aGm:Stmt:=aB jO 0
abbrev zI:Stmt:=aB jO 1
abbrev zJ:Stmt:=aB jO 2
abbrev zG:Stmt:=aB jO 3
abbrev wAt:Stmt:=aB jO 4
abbrev wTo:Stmt:=aB jO 5
abbrev zH:Stmt:=aB jO 6
abbrev aBy:Stmt:=aB jO 7
abbrev gP:Stmt:=aB jO 8
abbrev pT:Stmt:=aB aSp 1
abbrev aKb:Stmt:=aB zX 0
abbrev aBa:Stmt:=aB zX 1
abbrev aKa:Stmt:=aB zX 2
abbrev aJw:Stmt:=aB aHo 0
abbrev aAy:Stmt:=aB aHo 1
abbrev xZ:Stmt:=aB aHo 2
abbrev aGu:Stmt:=aB aHn 0
abbrev oT:Stmt:=aB aHn 1
abbrev aLk:Stmt:=aB aHv 0
abbrev aLj:Stmt:=aB aHv 1
abbrev aGr:Stmt:=aB aHm 0
abbrev aGq:Stmt:=aB aHm 1
abbrev aKr:Stmt:=aB aOs 0
abbrev aKq:Stmt:=aB aOs 1
abbrev aBv:Stmt:=aB aCw 0
abbrev aBu:Stmt:=aB aCw 1
abbrev aKl:Stmt:=aB aMf 0
abbrev wG:Stmt:=aB aMf 1
abbrev yK:Stmt:=aB aMf 2
abbrev aDi:Stmt:=aB aMf 3
structure Txt (K:xAb)(mg:xSO):Prop where
 lett:∃ t,mg "LETTERS"=some (.str iY t)
 figu:∃ t,mg "FIGURES"=some (.str jY t)
 most:∃ t,mg "MOST_SIGNS"=some (.int 8 t)
 deeds:∃ t,mg "MOST_DEEDS"=some (.int 12 t)
 isi:mg "isinstance"=none
 str:mg "str"=none
 bool:mg "bool"=none
 int:mg "int"=none
 len:mg "len"=none
 all:mg "all"=none
 range:mg "range"=none
 sorted:mg "sorted"=none
 list:mg "list"=none
 enum:mg "enumerate"=none
section
variable {P:Program}{w:World}{K:xAb}{mg:xSO}{base:Heap}
theorem scM:aO ["_law_cell","_law_k","_law_one"] ["_law_cell","_law_k"] (aA rR):=xfs
theorem xY {f:Addr}{fd:FuncData}(F:Fun K "_law_mixed" "_law_mixed" rR f fd):aP P w K mg base CX0 1 f fd ["_law_cell","_law_k"] vH:=by
 refine F.ok scM (λvs H Q E h=>?_) (λcdv A outer s H vs Q E hr h=>?_)
 ·obtain⟨c,k,rfl,_⟩:=h;rfl
 ·obtain⟨c,k,rfl,q⟩:=h
  refine⟨_,aJ (bO (i:=2) scM.nd rfl (xBg rfl) (bX dU (bX pF (bX iN (pv 0) (bX pF aN (pv 1))) aN) aN))
   (aK (aQ (bX dU (bX pF (pv 2) (bX iN (bX iN (pv 2) (bX pF aN (pv 1))) aN)) aN))),?_⟩
  refine⟨_,rfl,_,rfl,_,_,rfl,rfl,.inl ⟨by decide,by decide⟩,_,_,rfl,rfl,_,_,rfl,rfl,.inr ⟨by decide,by decide⟩,_,_,rfl,rfl,(by show (0:Int)<2147483647; decide),?_⟩;have h0:0<=(c+7919*k)*48271%2147483647:=xHg _ (by decide);have h1:(c+7919*k)*48271%2147483647<2147483647:=Int.emod_lt_of_pos _ (by decide);refine⟨_,rfl,_,rfl,_,rfl,_,_,rfl,rfl,.inl ⟨by decide,by decide⟩,_,_,rfl,rfl,_,_,rfl,rfl,_,_,rfl,rfl,.inl ⟨?_,?_⟩,_,_,rfl,rfl,(by show (0:Int)<2147483629; decide),q⟩
  ·exact Int.lt_of_lt_of_le (by decide) h0
  ·exact Int.lt_of_lt_of_le h1 (by decide)
theorem scC:aO ["_law_script","_law_k"] ["_law_script","_law_k"] (aA aHs):=xfs
theorem aMw {f fM:Addr}{fd fdM:FuncData}(F:Fun K "_law_cell_at" "_law_cell_at" aHs f fd)(T:Txt K mg)(FM:Fun K "_law_mixed" "_law_mixed" rR fM fdM)(bM:aS K fdM ["_law_cell","_law_k"] [])(mM:mg "_law_mixed" = some (.ref fM)) :
  aP P w K mg base CX0 2 f fd ["_law_script","_law_k"] (aHc K):=by
 have GM:aP P w K mg base CX0 1 fM fdM ["_law_cell","_law_k"] vH:=xY FM;refine F.ok scC (λvs H Q E h=>?_) (λcdv A outer s H vs Q E hr h=>?_)
 ·obtain⟨a,ns,k,rfl,_⟩:=h;rfl
 ·obtain⟨a,ns,k,rfl,hS,q⟩:=h
  refine⟨_,aJ (cM (aX aDd (pv 1) (bV cE (by rfl) T.len PySem.boot_len (iB (pv 0) aE)) (bJ _))
    (aK (aQ (aR GM hr rfl mM FM.kp bM .nil aY (iB (cQ dD (pv 0) (pv 1) (λ_ _=>rfl)) (iB (pv 1) aE))))) aZ)
   (aK (aQ aN)),?_⟩
  refine⟨_,rfl,_,rfl,a,_,rfl,.inl hS,_,_,rfl,rfl,_,rfl,?_⟩;rw[xAa];refine gK (λhk=>?_) (λhk=>?_)
  ·have hk':k<ns.length:=by have:=xAt hk; omega
   have ek:ns[k]?=some ns[k]:=by simp[hk']
   refine⟨_,rfl,_,rfl,a,_,_,_,rfl,rfl,hS,oM (v:=V.int ns[k]) (by rw[xAj,ek]; rfl),_,rfl,ns[k],k,rfl,?_⟩;have e:RW.cellAt ns k=RW.mixed ns[k] k:=by unfold RW.cellAt; rw[ek]
   rw[<- e];exact q
  ·have hk':¬ k<ns.length:=by intro z; exact hk (xAm (by omega))
   have e:RW.cellAt ns k=0:=by unfold RW.cellAt; rw[List.getElem?_eq_none (by omega)]
   rw[e] at q;exact q
theorem scN:aO ["thing","signs"] ["thing"] (aA nL):=xfs
theorem qT {f:Addr}{fd:FuncData}(F:Fun K "is_name" "is_name" nL f fd)(T:Txt K mg):aP P w K mg base CX0 1 f fd ["thing"] (rK K):=by
 obtain⟨tl,mL⟩:=T.lett;obtain⟨tf,mF⟩:=T.figu;obtain⟨tm,mM⟩:=T.most;refine F.ok scN (λvs H Q E h=>?_) (λcdv A outer s H vs Q E hr h=>?_)
 ·obtain⟨x,rfl,_⟩:=h;rfl
 ·obtain⟨x,rfl,h⟩:=h
  refine⟨_,aJ (cM (iV (gR (iJ (bV tE (by rfl) T.isi Bo.isinstance (iB (pv 0) (iB (qS (v:=.ty "str") (by rfl) T.str Bo.str rfl) aE)))))
     (iV (gR (rY (pv 0) (λ_=>rfl)))
     (hU (aX pV (bV wQ (by rfl) T.len Bo.len (iB (pv 0) aE)) (eQ (v:=.int 8) (by rfl) mM ⟨_,rfl⟩) (bJ _))))).pt
    (aK (aQ gN)) aZ)
   (aJ (bO (i:=1) scN.nd rfl (xHo rfl) (bX aAl (eQ (v:=.str iY) (by rfl) mL ⟨_,rfl⟩) (eQ (v:=.str jY) (by rfl) mF ⟨_,rfl⟩)))
   (aK (aQ (vZ (iA uM (cQ aRf (pv 0) aN (λ_ _=>rfl)) (eQ (v:=.str iY) (by rfl) mL ⟨_,rfl⟩) (by with_unfolding_all rfl))
    (vX (bV (uX rfl) (by rfl) T.all Bo.all (iB (gI (N':=["sign","signs"]) (nown:=1) (js:=[1]) rfl
     xbs (dF (aA nL) ["thing","signs"] rfl rfl (by decide +kernel))
     ⟨λ_ _ _ _=>aW (i:=0) (show List.Nodup (["sign","signs"]:List Str) by decide +kernel) rfl (xBg rfl) (.inr rfl),λ_ _ _ _=>fS,λ_ _ _ _=>iA uM (pv 0) (pv 1) (by with_unfolding_all rfl)⟩
     (aQo (pv 0))) aE))))))),?_⟩
  rcases h with⟨z,rfl,hz,q⟩ | ⟨t,ty,hk,q⟩
  ·refine⟨_,rfl,.str z,.ty "str",.type "str",.type "str",true,rfl,jQ,jD.str z,rfl,_,rfl,gF ?_⟩;refine⟨_,rfl,_,⟨hz,rfl⟩,?_⟩
   by_cases h0:z.length=0
   ·rw[h0];refine iD (iD ?_)
    have e:aU z=false:=by
     have:z.cps.toList.length=0:=by rw[xCq]; exact h0
     unfold aU oG;rw[xHx.mp this];rfl
    have q':=q H (aM.refl H);rw[e] at q';exact q'
   ·have hb:((z.length:Int) != 0)=true:=by simp[h0]
    rw[hb];refine gF ⟨_,rfl,z,rfl,hz,_,_,rfl,rfl,_,rfl,?_⟩;refine gK (λh8=>?_) (λh8=>?_)
    ·have h8':8<z.length:=by have:=xAt h8; omega
     have e:aU z=false:=by
      have hl:z.cps.toList.length=z.length:=by simp[Str.length]
      unfold aU oG;rw[xBc (by omega)];rfl
     have q':=q H (aM.refl H);rw[e] at q';exact q'
    ·have h8':z.length<=8:=by
      by_cases z8:z.length<=8
      ·exact z8
      ·exact xAu (xAm (show (8:Int)<(z.length:Int) by omega)) h8
     have hl:z.cps.toList.length=z.length:=by simp[Str.length]
     obtain⟨c,cs,ec⟩:∃ c cs,z.cps.toList=c::cs:=by
      cases e:z.cps.toList with
      | nil=>rw[e] at hl; exact xAu hl.symm h0
      | cons c cs=>exact⟨c,cs,rfl⟩
     have hat:atI z.cps.toList 0=some c:=by
      rw[ec];exact oM (j:=0) rfl
     have hn:aU z=(kY c&&z.cps.toList.all mY):=by
      unfold aU oG;rw[xAm (show 1<=z.cps.toList.length/\z.cps.toList.length<=8 by omega)];rw[ec];rfl
     refine⟨_,_,rfl,rfl,by decide +kernel,?_⟩;refine⟨_,rfl,z,0,c,rfl,rfl,hz,hat,_,_,rfl,rfl,_,rfl,?_⟩;rw[StrLaws.found_one,pW];refine gK (λhc=>?_) (λhc=>?_)
     ·refine⟨_,rfl,z,rfl,λD hD=>aNx (x:=z) (λi σ' H'=>∃ v,σ'=[v,some (.str (iY++jY))]/\H' D=some (.lst (((z.cps.toList.take i).map mY).map V.bl))/\aM H H') ?_ ?_ ?_⟩
      ·exact⟨none,rfl,aD,λb o e=>by rw[aH (aI e hD)]; exact e⟩
      ·rintro i d σ' H' hd ⟨v,rfl,hl',sm⟩;refine⟨_,rfl,_,rfl,_,_,rfl,rfl,_,hl',?_,some (aCu d),rfl,?_,?_⟩
       ·refine bS ?_;rw[xAa,xAa,xBb];omega
       ·rw[aD,StrLaws.found_one,aFn];have hd':z.cps.toList[i]?=some d:=by rw[xDs]; exact hd
        rw[xBo,hd']
        simp
       ·intro b o e;have e':=sm b o e;rw[aH (aI e hD)];exact e'
      ·rintro σ' H' ⟨v,rfl,hl',sm⟩;refine⟨D,_,rfl,SqL.of hl',?_⟩;have q':=q H' sm;rw[hn,hc,xGr] at q'
       have ea:((z.cps.toList.take z.cps.size).map mY).all id=z.cps.toList.all mY:=by
        rw[xCy (by simp),xIm];rfl
       rw[ea];exact q'
     ·have q':=q H (aM.refl H);rw[hn,xCp.mpr hc,xEz] at q';exact q'
  ·refine⟨_,rfl,x,.ty "str",.type "str",t,false,rfl,jQ,ty,hk,_,rfl,iD (iD ?_)⟩;exact q
theorem scW:aO ["names","weights","weight","name"] ["names"] (aA rO):=xfs
theorem aAm {f:Addr}{fd:FuncData}(F:Fun K "weights_of" "weights_of" rO f fd)(T:Txt K mg):aP P w K mg base CX0 1 f fd ["names"] (uA K):=by
 refine F.ok scW (λvs H Q E h=>?_) (λcdv A outer s H vs Q E hr h=>?_)
 ·obtain⟨a,ss,rfl,_⟩:=h;rfl
 ·obtain⟨a,ss,rfl,hS,h64,q⟩:=h;have hu:=jG hr
  refine⟨_,aJ (bO (i:=1) scW.nd rfl (xBg rfl) kS)
   (aJ (bO (i:=2) scW.nd rfl (xBg rfl) aN)
   (aJ (eV PassesOwn.never rfl (dC (bV wP (by rfl) T.sorted Bo.sorted (pac (pv 0) aE))) (aW (i:=3) scW.nd rfl (xBg rfl))
    (aJ (jS hu (pv 1) (pv 3) (pv 2) rfl) (aK (bO (i:=2) scW.nd rfl (xBg rfl) (bX pF (pv 2) aN)))))
   (aK (aQ (pv 1))))),?_⟩
  intro d hd;have s0:aM H (upd H d (.dK [])):=λb o e=>by rw[aH (aI e hd)]; exact e
  refine⟨_,rfl,a,ss,rfl,s0.seq hS,h64,λp ss' hp pm so=>⟨p,rfl,⟨_,SqL.of aD⟩,?_⟩⟩;have hpd:p≠d:=λz=>by rw[z,aD] at hp; cases hp
  have hpH:H p=none:=by rw[aH hpd] at hp; exact hp
  have hlen:ss'.length=ss.length:=pm.length_eq;refine dY (xs:=ss'.map V.str) (λi σ H'=>∃ wv kvs nv,σ=[some (.ref a),some (.ref d),some (.int wv),nv]/\H' d=some (.dK kvs)/\H' p=some (.lst (ss'.map V.str))/\aM H H'/\kvs.length<=i/\wts (ss'.drop i) wv kvs=wts ss' 1 []) ?_ ?_ ?_ ?_
  ·exact⟨1,[],none,rfl,by rw[aH (Ne.symm hpd),aD],aD,λb o e=>by rw[aH (aI e hpH),aH (aI e hd)]; exact e,xAh _,rfl⟩
  ·rintro i σ H' _ ⟨wv,kvs,nv,rfl,h1,h2,h3,h4,h5⟩;exact SqL.of h2
  ·rintro i x σ H' hx ⟨wv,kvs,nv,rfl,h1,h2,h3,h4,h5⟩;rw[xAj] at hx;cases hz:ss'[i]? with
   | none=>rw[hz] at hx; cases hx
   | some z=>
    rw[hz] at hx;cases hx;have hi:i<ss'.length:=(xAd.mp hz).1;refine⟨_,rfl,_,rfl,_,rfl,d,_,rfl,pS.k (k:=Sum.inr z) h1 (bS (by omega)),?_⟩;refine⟨_,rfl,_,_,rfl,rfl,.inr ⟨by decide,by decide⟩,wv*2,eX kvs (Sum.inr z) (.int wv),some (.str z),rfl,aD,by rw[aH hpd]; exact h2,λb o e=>?_,?_,?_⟩
    ·rw[aH (aI e hd)]; exact h3 b o e
    ·exact xAs (gE _ _ _) (by omega)
    ·rw[<- h5,xDd hi];rw[(xAd.mp hz).2];rfl
  ·rintro σ H' ⟨wv,kvs,nv,rfl,h1,h2,h3,h4,h5⟩;rw[xAa,xGz] at h5;refine⟨_,rfl,q d ss' H' h3 hd pm so ?_⟩;rw[h1];exact congrArg (λz=>some (HO.dK z)) h5
theorem scK:aO ["names","marks","name"] ["names"] (aA aAa):=xfs
theorem aJb {f:Addr}{fd:FuncData}(F:Fun K "marks_of" "marks_of" aAa f fd)(T:Txt K mg):aP P w K mg base CX0 1 f fd ["names"] (qN K):=by
 refine F.ok scK (λvs H Q E h=>?_) (λcdv A outer s H vs Q E hr h=>?_)
 ·obtain⟨a,ss,rfl,_⟩:=h;rfl
 ·obtain⟨a,ss,rfl,hS,hlen,q⟩:=h;have hu:=jG hr
  refine⟨_,aJ (bO (i:=1) scK.nd rfl (xBg rfl) kS)
   (aJ (eV PassesOwn.never rfl (dC (pv 0)) (aW (i:=2) scK.nd rfl (xBg rfl)) (aK (jS hu (pv 1) (pv 2) gN rfl)))
   (aK (aQ (pv 1)))),?_⟩
  intro d hd;have s0:aM H (upd H d (.dK [])):=λb o e=>by rw[aH (aI e hd)]; exact e
  refine⟨_,rfl,a,rfl,⟨_,s0.seq hS⟩,?_⟩;refine dY (xs:=ss.map V.str) (λi σ H'=>∃ kvs nv,σ=[some (.ref a),some (.ref d),nv]/\H' d=some (.dK kvs)/\aM H H'/\kvs.length<=i/\mks (ss.drop i) kvs=mks ss []) ?_ ?_ ?_ ?_
  ·exact⟨[],none,rfl,aD,s0,xAh _,rfl⟩
  ·rintro i σ H' _ ⟨kvs,nv,rfl,h1,h3,h4,h5⟩;exact h3.seq hS
  ·rintro i x σ H' hx ⟨kvs,nv,rfl,h1,h3,h4,h5⟩;rw[xAj] at hx;cases hz:ss[i]? with
   | none=>rw[hz] at hx; cases hx
   | some z=>
    rw[hz] at hx;cases hx;have hi:i<ss.length:=(xAd.mp hz).1;refine⟨_,rfl,_,rfl,d,_,rfl,pS.k (k:=Sum.inr z) h1 (bS (by omega)),eX kvs (Sum.inr z) (.bl true),some (.str z),rfl,aD,λb o e=>?_,?_,?_⟩
    ·rw[aH (aI e hd)]; exact h3 b o e
    ·exact xAs (gE _ _ _) (by omega)
    ·rw[<- h5,xDd hi];rw[(xAd.mp hz).2];rfl
  ·rintro σ H' ⟨kvs,nv,rfl,h1,h3,h4,h5⟩;rw[xAa,xGz] at h5;refine⟨_,rfl,q d H' h3 hd ?_⟩;rw[h1];exact congrArg (λz=>some (HO.dK z)) h5
structure Exc (K:xAb)(mg:xSO)(cl:Why->Addr):Prop where
 nn:mg "NoName"=some (.ref (cl .noName))
 nd:mg "NoDeed"=some (.ref (cl .noDeed))
 tt:mg "TwiceTold"=some (.ref (cl .twice))
 tm:mg "TooMany"=some (.ref (cl .tooMany))
 x:∀ k,nF K (cl k)
theorem scR:aO ["names","ahead","name"] ["names"] (aA vO):=xfs
theorem aEw {f fN:Addr}{fd fdN:FuncData}{cl:Why->Addr}(F:Fun K "refuse_names" "refuse_names" vO f fd)(T:Txt K mg)(Ex:Exc K mg cl)
  (FN:Fun K "is_name" "is_name" nL fN fdN)(bN:aS K fdN ["thing"] [])(mN:mg "is_name" = some (.ref fN)) :
  aP P w K mg base (CXE P w) 2 f fd ["names"] (xE K cl):=by
 have GN:aP P w K mg base CX0 1 fN fdN ["thing"] (rK K):=qT FN T;obtain⟨tm,mD⟩:=T.deeds;refine okE F scR (λvs H Q E h=>?_) (λcdv A outer s H vs Q E hr h D=>?_)
 ·obtain⟨a,ss,rfl,_⟩:=h;rfl
 ·obtain⟨a,ss,rfl,hS,hsh,q⟩:=h;have hu:=jG hr
  refine⟨_,aJ (cM (aX pV (bV cE (by rfl) T.len Bo.len (pac (pv 0) aE)) (eQ (v:=.int 12) (by rfl) mD ⟨_,rfl⟩) (bJ _))
    (aK (eG D rfl (by rfl) Ex.tm (Ex.x .tooMany) (pac aL aE))) aZ)
   (aJ (bO (i:=1) scR.nd rfl (xBg rfl) kS)
   (aK (eV PassesOwn.leaving rfl (dC (pv 0)) (aW (i:=2) scR.nd rfl (xBg rfl))
    (aJ (cM (gR (iJ (aR GN hr rfl mN FN.kp bN .nil aY (pac (pv 2) aE)))) (aK (eG D rfl (by rfl) Ex.nn (Ex.x .noName) (pac aL aE))) aZ)
    (aJ (cM (oY (sH hu (pv 2) (pv 1))) (aK (eG D rfl (by rfl) Ex.tt (Ex.x .twice) (pac (xT aL (aQq (pv 2)) aL) aE))) aZ)
    (aK (jS hu (pv 1) (pv 2) gN rfl))))))),?_⟩
  refine⟨_,rfl,a,_,rfl,.inl hS,_,_,rfl,rfl,_,rfl,?_⟩;rw[xAa]
  have fin:∀ (k:Why) H',aM H H'->iU ss=some k->E (.ref (cl k)) none H':=λk H' sm e=>by
   have:=q H' sm
   rw[e] at this;exact this
  refine gK (λh12=>?_) (λh12=>?_)
  ·have h12':12<ss.length:=by have:=xAt h12; omega
   exact⟨by show 1<=sizeLine; decide,fin .tooMany H (aM.refl H) (xAz h12')⟩
  ·have h12':¬ 12<ss.length:=λz=>h12 (xAm (by omega));have er:iU ss=tO [] ss:=xAw h12';intro d hd;have s0:aM H (upd H d (.dK [])):=λb o e=>by rw[aH (aI e hd)]; exact e
   refine⟨_,rfl,a,rfl,⟨_,s0.seq hS⟩,?_⟩;refine dY (xs:=ss.map V.str) (λi σ H'=>∃ kvs nv,σ=[some (.ref a),some (.ref d),nv]/\H' d=some (.dK kvs)/\aM H H'/\kvs.length<=i/\(∀ z,(dE kvs (Sum.inr z)).isSome=decide (z∈ss.take i))/\tO (ss.take i) (ss.drop i)=tO [] ss) ?_ ?_ ?_ ?_
   ·exact⟨[],none,rfl,aD,s0,xAh _,λz=>by simp[dE],rfl⟩
   ·rintro i σ H' _ ⟨kvs,nv,rfl,h1,h3,h4,h5,h6⟩;exact h3.seq hS
   ·rintro i x σ H' hx ⟨kvs,nv,rfl,h1,h3,h4,h5,h6⟩;rw[xAj] at hx;cases hz:ss[i]? with
    | none=>rw[hz] at hx; cases hx
    | some z=>
     rw[hz] at hx;cases hx;obtain⟨hi,hzi⟩:=xAd.mp hz;have hzl:z.length<=1000:=hsh z (xBe hz);have ed:ss.drop i=z::ss.drop (i+1):=by rw[xDd hi,hzi]
     have et:ss.take (i+1)=ss.take i++[z]:=by rw[xBo,hz]; rfl
     have sl:sizeLine=16777216:=sizeLine_eq;rw[ed] at h6;refine⟨_,rfl,.str z,rfl,.inl ⟨z,rfl,by omega,λH2 sm2=>⟨_,rfl,?_⟩⟩⟩;have s2:aM H H2:=h3.trans sm2
     by_cases hn:aU z=true
     ·rw[hn];refine gF ⟨_,rfl,_,rfl,d,_,rfl,fP.k (k:=Sum.inr z) (sm2 d _ h1),_,rfl,?_⟩;rw[h5 z]
      by_cases hm:z∈ss.take i
      ·rw[xAm hm];refine iD ⟨_,rfl,?_,_,rfl,z,rfl,by omega,_,rfl,?_,_,rfl,?_,?_,by show 1<=sizeLine; decide,fin .twice H2 s2 ?_⟩
       ·rw[iC]; show 0+9<=sizeLine; decide
       ·rw[iC,iC]; show 0+9+z.length<=sizeLine; omega
       ·rw[iC,iC,iC]; show 0+9+z.length+14<=sizeLine; omega
       ·rw[iC,iC,iC]; show 0+9+z.length+14<=sizeLine; omega
       ·rw[er,<- h6];show (if aU z=true then (if z∈ss.take i then some Why.twice else tO (ss.take i++[z]) (ss.drop (i+1))) else some .noName)=_
        rw[xAz hn,xAz hm]
      ·rw[xBc hm];refine gF ⟨_,rfl,_,rfl,d,_,rfl,pS.k (k:=Sum.inr z) (sm2 d _ h1) (bS (by omega)),eX kvs (Sum.inr z) (.bl true),some (.str z),rfl,aD,λb o e=>?_,?_,λy=>?_,?_⟩
       ·rw[aH (aI e hd)]; exact s2 b o e
       ·exact xAs (gE _ _ _) (by omega)
       ·rw[nG,et]
        by_cases hy:y=z
        ·subst hy;rw[xAz rfl]
         simp
        ·rw[xAw (λe=>hy (Sum.inr.inj e)),h5 y];simp[hy]
       ·rw[et,<- h6];show _=if aU z=true then (if z∈ss.take i then some .twice else tO (ss.take i++[z]) (ss.drop (i+1))) else some .noName
        rw[xAz hn,xAw hm]
     ·rw[xCp.mpr hn];refine iD ⟨by show 1<=sizeLine; decide,fin .noName H2 s2 ?_⟩;rw[er,<- h6];exact xAw hn
   ·rintro σ H' ⟨kvs,nv,rfl,h1,h3,h4,h5,h6⟩;rw[xAa,xGz,xBa] at h6
    have:=q H' h3
    rw[er,<- h6] at this;exact this
structure zE (K:xAb)(C:Addr):Prop where
 cl:Cls K C
 nw:dB K C "weights"
 nf:dB K C "free_marks"
theorem scH:aO ["self","thing"] ["self","thing"] (aA aMe):=xfs
theorem aWm (K:xAb):kitOne K (.type "NoneType") (.type "str")=some false:=by
 unfold kitOne kitCls;rw[xAw (by decide)];dsimp only;rw[xAz (by decide +kernel)];show (PySem.fastBuiltinMro "NoneType").map _=_
 decide +kernel
theorem aWn (K:xAb):kitOne K (.type "int") (.type "str")=some false:=by
 unfold kitOne kitCls;rw[xAw (by decide)];dsimp only;rw[xAz (by decide +kernel)];show (PySem.fastBuiltinMro "int").map _=_
 decide +kernel
theorem aQx {f fN C:Addr}{fd fdN:FuncData}(F:Fun K "has" "Deeds.has" aMe f fd)(T:Txt K mg)(DC:zE K C)
  (FN:Fun K "is_name" "is_name" nL fN fdN)(bN:aS K fdN ["thing"] [])(mN:mg "is_name" = some (.ref fN)) :
  aP P w K mg base CX0 2 f fd ["self","thing"] (aOn K C):=by
 have GN:aP P w K mg base CX0 1 fN fdN ["thing"] (rK K):=qT FN T;refine F.ok scH (λvs H Q E h=>?_) (λcdv A outer s H vs Q E hr h=>?_)
 ·obtain⟨p,x,kvs,rfl,_⟩:=h;rfl
 ·obtain⟨p,x,kvs,rfl,hz,⟨dx,fs,dw,o,hp,hm,hw,hk⟩,q⟩:=h;have hu:=jG hr;refine⟨_,aK (aQ (vZ (aR GN hr rfl mN FN.kp bN .nil aY (pac (pv 1) aE)) (vX (aIi (sH hu (pv 1) (bZ (pv 0) rfl)))))),?_⟩;rcases hz with⟨z,rfl,hz⟩ | rfl | rfl
  ·refine⟨_,rfl,.str z,rfl,.inl ⟨z,rfl,by have sl:sizeLine=16777216:=sizeLine_eq; omega,λH2 s2=>⟨_,rfl,?_⟩⟩⟩;have q2:=q H2 s2;refine gK (λhn=>?_) (λhn=>?_)
   ·rw[cZ,hn,xGr] at q2;exact⟨_,rfl,_,rfl,p,C,dx,fs,_,rfl,s2 p _ hp,DC.cl,DC.nw,hw,dw,_,rfl,.inl ⟨kvs,Sum.inr z,.inr ⟨o,s2 dw _ hk⟩,rfl,rfl⟩,q2⟩
   ·rw[cZ,xCp.mpr hn,xEz] at q2;exact q2
  ·exact⟨_,rfl,.non,rfl,.inr ⟨_,.non,aWm K,_,rfl,gF (q H (aM.refl H))⟩⟩
  ·exact⟨_,rfl,.int 5,rfl,.inr ⟨_,.int 5,aWn K,_,rfl,gF (q H (aM.refl H))⟩⟩
theorem scQ:aO ["self","row","deed"] ["self","row"] (aA rQ):=xfs
theorem aAo {f fN fH C:Addr}{fd fdN fdH:FuncData}{cl:Why->Addr}(F:Fun K "require" "Deeds.require" rQ f fd)(T:Txt K mg)(Ex:Exc K mg cl)(DC:zE K C)
  (FN:Fun K "is_name" "is_name" nL fN fdN)(bN:aS K fdN ["thing"] [])(mN:mg "is_name" = some (.ref fN))
  (FH:Fun K "has" "Deeds.has" aMe fH fdH)(bH:aS K fdH ["self","thing"] [])(mH:eI K C "has" fH) :
  aP P w K mg base (CXE P w) 3 f fd ["self","row"] (iE K C cl):=by
 have GH:aP P w K mg base CX0 2 fH fdH ["self","thing"] (aOn K C):=aQx FH T DC FN bN mN;refine okE F scQ (λvs H Q E h=>?_) (λcdv A outer s H vs Q E hr h D=>?_)
 ·obtain⟨p,b,fs,kvs,rfl,_⟩:=h;rfl
 ·obtain⟨p,b,fs,kvs,rfl,hS,hsh,⟨dx,fl,dw,o,hp,hm,hw,hk⟩,q⟩:=h
  refine⟨_,aK (eV PassesOwn.leaving rfl (dC (pv 1)) (aW (i:=2) scQ.nd rfl (xBg rfl))
    (aK (cM (gR (iJ (dQ (pv 0) DC.cl mH GH hr bH .nil aY (pac (pv 2) aE)))) (aK (eG D rfl (by rfl) Ex.nd (Ex.x .noDeed) (pac aL aE))) aZ))),?_⟩
  refine⟨_,rfl,b,rfl,⟨_,hS⟩,?_⟩;refine dY (xs:=fs) (λi σ H'=>∃ nv,σ=[some (.ref p),some (.ref b),nv]/\aM H H'/\(fs.take i).all (cZ kvs)=true) ?_ ?_ ?_ ?_
  ·exact⟨none,rfl,aM.refl H,rfl⟩
  ·rintro i σ H' _ ⟨nv,rfl,h3,h4⟩;exact h3.seq hS
  ·rintro i x σ H' hz ⟨nv,rfl,h3,h4⟩;refine⟨_,rfl,p,dx,fl,rfl,h3 p _ hp,hm "has" (by decide),_,rfl,p,x,kvs,rfl,hsh x (xBe hz),⟨dx,fl,dw,o,h3 p _ hp,hm,hw,h3 dw _ hk⟩,λH2 s2=>⟨_,rfl,?_⟩⟩;cases hb:cZ kvs x with
   | true=>
    refine gF ⟨some x,rfl,h3.trans s2,?_⟩;rw[xBo,hz,xHf,h4];simp[hb]
   | false=>
    refine iD ⟨by show 1<=sizeLine; decide,?_⟩
    have:=q H2 (h3.trans s2)
    rw[xAw ?_] at this
    ·exact this
    ·intro z'
     have:=xBn.mp z' x (xBe hz)
     rw[hb] at this;cases this
  ·rintro σ H' ⟨nv,rfl,h3,h4⟩;rw[xBa] at h4
   have:=q H' h3
   rw[xAz h4] at this;exact this
theorem aPz {K:xAb}{H H':Hp}{a x C dx:Addr}{fs:List (Str×V)}{xs:List V}(e:SameBut x H H')(hx:H x=some (.ins C dx fs))(h:SqL K H a xs):SqL K H' a xs:=by
 rcases h with (h | ⟨o,h⟩) | h
 ·exact .inl (.inl (e _ _ (λz=>by rw[z,hx] at h; cases h) h))
 ·exact .inl (.inr ⟨o,e _ _ (λz=>by rw[z,hx] at h; cases h) h⟩)
 ·exact .inr h
theorem noW (v:V):∀ m∈aKc,List.lookup m [(("weights" : Str),v)]=none:=by
 have h:∀ m∈aKc,(m==("weights" : Str))=false:=by decide +kernel
 intro m hm;simp only[List.lookup,h m hm]
theorem aWh (v u:V):∀ m∈aKc,List.lookup m [(("weights" : Str),v),(("free_marks" : Str),u)]=none:=by
 have h:∀ m∈aKc,(m==("weights" : Str))=false/\(m==("free_marks" : Str))=false:=by decide +kernel
 intro m hm;simp only[List.lookup,(h m hm).1,(h m hm).2]
theorem aLh (kvs:List (Key×V))(fs:List Str):(fs.map V.str).all (cZ kvs)=fs.all (λz=>aU z&&(dE kvs (Sum.inr z)).isSome):=by
 rw[xIm];rfl
theorem lO {fs:List Str}(h:dR fs):∀ x∈fs.map V.str,aDy x:=λx hx=>by
 obtain⟨z,hz,rfl⟩:=xAo.mp hx;exact .inl ⟨z,rfl,h z hz⟩
theorem rC:∀ (ss:List Str) (wv:Int) (kvs:List (Key×V)) (z:Str),(dE (wts ss wv kvs) (Sum.inr z)).isSome=(decide (z∈ss)||(dE kvs (Sum.inr z)).isSome)
 | [],_,kvs,z=>by simp[wts]
 | s::r,wv,kvs,z=>by
  rw[wts,rC r,nG]
  by_cases h:z=s
  ·subst h
   simp
  ·rw[xAw λe=>h (Sum.inr.inj e)];simp[h]
theorem scI:aO ["self","names","free","free_names"] ["self","names","free"] (aA iI):=xfs
theorem aMv {f fR fW fK fQ C:Addr}{fd fdR fdW fdK fdQ:FuncData}{cl:Why->Addr}(F:aLr K "__init__" "Deeds.__init__" iI f fd)(T:Txt K mg)(DC:zE K C)
  (GR:aP P w K mg base (CXE P w) 2 fR fdR ["names"] (xE K cl))(kR:keepIn K (.ref fR)=true)(bR:aS K fdR ["names"] [])(mR:mg "refuse_names" = some (.ref fR))
  (GW:aP P w K mg base CX0 1 fW fdW ["names"] (uA K))(kW:keepIn K (.ref fW)=true)(bW:aS K fdW ["names"] [])(mW:mg "weights_of" = some (.ref fW))
  (GK:aP P w K mg base CX0 1 fK fdK ["names"] (qN K))(kK:keepIn K (.ref fK)=true)(bK:aS K fdK ["names"] [])(mK:mg "marks_of" = some (.ref fK))
  (GQ:aP P w K mg base (CXE P w) 3 fQ fdQ ["self","row"] (iE K C cl))(bQ:aS K fdQ ["self","row"] [])(mQ:eI K C "require" fQ) :
  aP P w K mg base (CXE P w) 4 f fd ["self","names","free"] (zQ K C cl):=by
 refine aSw F scI (λvs H Q E h=>?_) (λcdv A outer s H vs Q E hr h D=>?_)
 ·obtain⟨x,a,y,dx,ss,fs,rfl,_⟩:=h;rfl
 ·obtain⟨x,a,y,dx,ss,fs,rfl,hx,hA,hB,hsh,hfh,hfl,q⟩:=h;have hr1:bY 1 _:=hr.mono (by decide);have hr2:bY 2 _:=hr.mono (by decide)
  refine⟨_,aJ (cX (aR GR hr2 rfl mR kR bR .nil (D.passes λ_ _ _ z=>z) (pac (pv 1) aE)))
   (aJ (fX (pv 0) (aEm (aR GW hr1 rfl mW kW bW .nil aY (pac (pv 1) aE))) rfl)
   (nV (λσ H'=>∃ b d o ss',σ=[some (.ref x),some (.ref a),some y,some (.ref b)]/\H' x=some (.ins C dx [("weights",.ref d)])/\H' d=some (.frz o (.dK (wts ss' 1 [])))/\SameBut x H H'/\SqL K H' b (fs.map V.str)/\ss'.Perm ss/\xBt ss'=true)
    (bO (i:=3) scI.nd rfl (xBg rfl) (xV (aX aIn (pv 2) jB (bJ _)) (aV aE) (pv 2)))
   (aJ (cX (dQ (pv 0) DC.cl mQ GQ hr bQ .nil (D.passes λ_ _ _ z=>z) (pac (pv 3) aE)))
   (aK (fX (pv 0) (aR GK hr1 rfl mK kK bK .nil aY (pac (pv 3) aE)) rfl))))),?_⟩
  refine⟨_,rfl,a,ss,rfl,hA,hsh,λH1 s1=>?_⟩;have sb:∀ {H'},aM H H'->SameBut x H H':=λsm b o _ e=>sm b o e;cases hR:iU ss with
  | some k=>
   have:=q H1 (sb s1)
   unfold lC at this;rw[hR] at this;exact this
  | none=>
   have h12:ss.length<=12:=by
    unfold iU at hR
    by_cases z:12<ss.length
    ·rw[xAz z] at hR; cases hR
    ·omega
   refine⟨_,rfl,a,ss,rfl,s1.seq hA,by omega,λd ss' H2 s2 hd pm so hd2=>⟨d,_,rfl,hd2,λo=>?_⟩⟩;have hx2:=s2 x _ (s1 x _ hx);have ndx:d≠x:=λz=>by rw[z,hx2] at hd2; cases hd2
   have hx2':(upd H2 d (.frz o (.dK (wts ss' 1 [])))) x=some (.ins C dx []):=by rw[aH (Ne.symm ndx)]; exact hx2
   refine⟨_,rfl,x,C,dx,[],rfl,hx2',DC.cl,DC.nw,by decide,?_⟩;generalize hH3:upd (upd H2 d (.frz o (.dK (wts ss' 1 [])))) x (.ins C dx (eY "weights" (.ref d) []))=H3;have hx3:H3 x=some (.ins C dx [("weights",.ref d)]):=by rw[<- hH3,aD]; rfl
   have hd3:H3 d=some (.frz o (.dK (wts ss' 1 []))):=by rw[<- hH3,aH ndx,aD]
   have hHd:H d=none:=by
    cases e:H d with
    | none=>rfl
    | some u=>rw[s1 d u e] at hd; cases hd
   have s3:SameBut x H H3:=λb o n e=>by rw[<- hH3,aH n,aH (aI e hHd)]; exact s2 b o (s1 b o e)
   have hB3:(y=.non/\fs=[])\/∃ b,y=.ref b/\SqL K H3 b (fs.map V.str):=hB.imp id λ⟨b,e,h⟩=>⟨b,e,aPz s3 hx h⟩;refine⟨?_,?_⟩
   ·rcases hB3 with⟨rfl,rfl⟩ | ⟨b,rfl,hB3⟩
    ·refine⟨_,rfl,rfl,_,rfl,gK (λ_=>⟨by show 0<=sizeLine; decide,λl hl=>⟨l,d,o,ss',rfl,?_,?_,?_,SqL.of aD,pm,so⟩⟩) λz=>xAu (xAm rfl) z⟩
     ·rw[aH (aI hx3 hl)]; exact hx3
     ·rw[aH (aI hd3 hl)]; exact hd3
     ·exact λc u n e=>by rw[aH (aI (s3 c u n e) hl)]; exact s3 c u n e
    ·exact⟨_,rfl,rfl,_,rfl,gK (λz=>xAu (xAt z) (by intro z; cases z)) λ_=>⟨_,rfl,b,d,o,ss',rfl,hx3,hd3,s3,hB3,pm,so⟩⟩
   clear hB3 hd3 hx3 s3 hH3 H3 hx2' hx2 ndx hd2;rintro σ H3 ⟨b,d,o,ss',rfl,hx3,hd3,s3,hB3,pm,so⟩
   have e4:∀ z,(dE (wts ss' 1 []) (Sum.inr z)).isSome=decide (z∈ss):=λz=>by
    rw[rC];simp[dE,pm.mem_iff]
   refine⟨_,rfl,x,dx,_,rfl,hx3,by rfl,_,rfl,x,b,fs.map V.str,_,rfl,hB3,lO hfh,⟨dx,_,d,o,hx3,noW _,by rfl,hd3⟩,λH4 s4=>?_⟩;have s4':SameBut x H H4:=λb o n e=>s4 b o (s3 b o n e);rw[aLh];simp only[e4];have q4:=q;unfold lC at q4;rw[hR] at q4;have ndx:d≠x:=λz=>by rw[z,hx3] at hd3; cases hd3
   by_cases hall:fs.all (λf=>aU f&&decide (f∈ss))=true
   ·simp only[if_pos hall] at q4 ⊢;refine⟨_,rfl,b,fs,rfl,s4.seq hB3,hfl,λdf H5 s5 hdf hdf5=>?_⟩;have hx5:=s5 x _ (s4 x _ hx3);have ndf:df≠x:=λz=>by rw[z,hx5] at hdf5; cases hdf5
    refine⟨_,rfl,x,C,dx,_,rfl,hx5,DC.cl,DC.nf,by show 1<1000; decide,?_⟩;refine q4 _ (λb o n e=>by rw[aH n]; exact s5 b o (s4' b o n e)) d df o ss' (by rw[aD]; rfl) (by rw[aH ndx]; exact s5 d _ (s4 d _ hd3)) (by rw[aH ndf]; exact hdf5) pm so
   ·simp only[if_neg hall] at q4 ⊢;exact q4 H4 s4'
abbrev jA:List Str:=["go","a","b1","stop","r0","r1","open","x","yy","z9","longname","c"]
def gQ (c:Int):Int:=([1,5,7,11]:List Int).getD (c/12%4).toNat 1
def pG (c:Int)(k:Nat):Str:=jA.getD ((c+gQ c*k)%12).toNat ""
def dN (c:Int)(n:Nat):List Str:=(List.range n).map (pG c)
def eP (c:Int):Nat:=if c/8%16=1 then (c/128%2).toNat else ([2,3,3,4,4,5,6,12]:List Nat).getD (c%8).toNat 0
def pO (c:Int)(ss:List Str):List Str:=(List.range ss.length).filterMap λ(k:Nat)=>if RW.mixed c (k:Nat)%4=1 then ss[k]? else none
theorem gL {α β:Type}(f:α->β)(xs:List α)(d:α){i:Int}(h0:0<=i)(h1:i<xs.length):atI (xs.map f) i=some (f (xs.getD i.toNat d)):=by
 have hl:i.toNat<xs.length:=by omega
 have e:i=(i.toNat:Int):=by omega
 have h:=oM (xs:=xs.map f) (j:=i.toNat) (v:=f (xs.getD i.toNat d)) (by rw[xAj,xBv,xAi hl]; rfl);rw[<- e] at h;exact h
theorem cV (c:Int){m:Int}(h:0<m):0<=c%m/\c%m<m:=⟨xHg _ (by omega),Int.emod_lt_of_pos _ h⟩
theorem aGw:∀ n,n<4->([1,5,7,11]:List Int).getD n 1=1\/([1,5,7,11]:List Int).getD n 1=5\/([1,5,7,11]:List Int).getD n 1=7\/([1,5,7,11]:List Int).getD n 1=11:=by decide +kernel
theorem jM (c:Int):gQ c=1\/gQ c=5\/gQ c=7\/gQ c=11:=by
 have h:=cV (c/12) (m:=4) (by decide);exact aGw _ (by omega)
theorem aKf:∀ n,n<8->([2,3,3,4,4,5,6,12]:List Nat).getD n 0<=12/\(([2,3,3,4,4,5,6,12]:List Int).getD n 0)=((([2,3,3,4,4,5,6,12]:List Nat).getD n 0:Nat):Int):=by decide +kernel
theorem uQ (c:Int):([2,3,3,4,4,5,6,12]:List Nat).getD (c%8).toNat 0<=12/\(([2,3,3,4,4,5,6,12]:List Int).getD (c%8).toNat 0)=((([2,3,3,4,4,5,6,12]:List Nat).getD (c%8).toNat 0:Nat):Int):=by
 have h:=cV c (m:=8) (by decide);exact aKf _ (by omega)
theorem lS (c:Int):eP c<=12:=by
 unfold eP;split
 ·have h:=cV (c/128) (m:=2) (by decide);omega
 ·exact (uQ c).1
def kZ (c:Int)(ss:List Str)(i:Nat):List Str:=(List.range i).filterMap λ(k:Nat)=>if RW.mixed c (k:Nat)%4=1 then ss[k]? else none
inductive uC (K:xAb)(vs:List V)(H:Hp)(Q:VK)(x3_:XK):Prop
 | mk (c:Int)(n:Nat)(h0_:vs=[.int c,.int n])(h1_:n<=1000)(h2_:∀ (l:Addr) H',aM H H'->H l=none->H' l=some (.lst ((dN c n).map V.str))->Q (.ref l) H')
inductive uG (K:xAb)(vs:List V)(H:Hp)(Q:VK)(x3_:XK):Prop
 | mk (c:Int)(h0_:vs=[.int c])(h1_:∀ (t l m:Addr) H',aM H H'->H' t=some (.tup [.ref l,.ref m])->H' l=some (.lst ((dN (c/256) (eP c)).map V.str))->H' m=some (.lst ((pO c (dN (c/256) (eP c))).map V.str))->Q (.ref t) H')
abbrev NB:List Str:=["_law_cell","_law_many","_law_some","_law_step"]
theorem scB:aO NB ["_law_cell","_law_many"] (aA kP):=xfs
theorem aAp {f:Addr}{fd:FuncData}(F:Fun K "_law_names_by" "_law_names_by" kP f fd)(T:Txt K mg):aP P w K mg base CX0 1 f fd ["_law_cell","_law_many"] (uC K):=by
 refine F.ok scB (λvs H Q E h=>?_) (λcdv A outer s H vs Q E hr h=>?_)
 ·obtain⟨c,n,rfl,_⟩:=h;rfl
 ·obtain⟨c,n,rfl,hn,q⟩:=h
  refine⟨_,aJ (bO (i:=2) scB.nd rfl (xHo rfl) (aV (pac aL (pac aL (pac aL (pac aL (pac aL (pac aL (pac aL (pac aL (pac aL (pac aL (pac aL (pac aL aE))))))))))))))
   (aJ (bO (i:=3) scB.nd rfl (xHo rfl) (cQ dD (aV (pac aN (pac aN (pac aN (pac aN aE))))) (bX dU (bX gU (pv 0) aN) aN) (λ_ _=>rfl)))
   (aK (aQ (gI (N':=["_law_k","_law_some","_law_cell","_law_step"]) (nown:=1) (js:=[2,0,3]) rfl
     xbs (dF (aA kP) NB rfl rfl (by decide +kernel))
     ⟨λ_ _ _ _=>aW (i:=0) (show List.Nodup (["_law_k","_law_some","_law_cell","_law_step"]:List Str) by decide +kernel) rfl (xBg rfl) (.inr rfl),λ_ _ _ _=>fS,
      λ_ _ _ _=>cQ (show IxR _ (aMj K) from dD) (pv 1) (bX dU (bX iN (pv 2) (bX pF (pv 3) (pv 0))) aN) (λ_ _=>rfl)⟩
     (lP rfl T.range (pac (pv 1) aE)))))),?_⟩
  have sl:sizeLine=16777216:=sizeLine_eq;have g4:=cV (c/12) (m:=4) (by decide);refine⟨by show 12<=sizeLine; decide,λp hp=>⟨by show 4<=sizeLine; decide,λp2 hp2=>⟨_,rfl,_,_,rfl,rfl,⟨by decide,by decide⟩,_,_,rfl,rfl,(by show (0:Int)<4; decide),p2,_,_,V.int (gQ c),rfl,rfl,SqL.of aD,gL V.int [1,5,7,11] 1 g4.1 g4.2,?_⟩⟩⟩;have n12:p≠p2:=aI aD hp2;generalize hH2:upd (upd H p _) p2 _=H2;have e2:H2 p=some (.lst (jA.map V.str)):=by rw[<- hH2,aH n12,aD]; rfl
  have s2:aM H H2:=λb o e=>by
   have m1:b≠p:=aI e hp;have m2:b≠p2:=aI (show (upd H p _) b=some o by rw[aH m1]; exact e) hp2;rw[<- hH2,aH m2,aH m1];exact e
  refine⟨_,rfl,n,rfl,by omega,by omega,λD hD=>pP (n:=n) (λi σ' H'=>∃ v,σ'=[v,some (.ref p),some (.int c),some (.int (gQ c))]/\H' D=some (.lst ((dN c i).map V.str))/\aM H2 H') ?_ ?_ ?_⟩
  ·exact⟨none,rfl,aD,λb o e=>by rw[aH (aI e hD)]; exact e⟩
  ·rintro i σ' H' hi ⟨v,rfl,hl',sm⟩;have g12:=cV (c+gQ c*(0+(i:Int))) (m:=12) (by decide);refine⟨_,rfl,_,rfl,_,rfl,_,rfl,_,_,rfl,rfl,.inl ?_,_,_,rfl,rfl,_,_,rfl,rfl,(by show (0:Int)<12; decide),p,_,_,V.str (pG c i),rfl,rfl,SqL.of (sm p _ e2),?_,_,hl',?_,_,rfl,?_,?_⟩
   ·rcases jM c with h | h | h | h <;> (rw[h]; exact⟨by decide,by decide⟩)
   ·have h:=gL V.str jA "" g12.1 g12.2;rw[h,xIo];rfl
   ·refine bS ?_;rw[xAa];unfold dN;rw[xAa,xCo];omega
   ·rw[aD];unfold dN;rw[xEp,xAx,xAx];rfl
   ·intro b o e;rw[aH (aI e hD)];exact sm b o e
  ·rintro σ' H' ⟨v,rfl,hl',sm⟩;refine q D H' (s2.trans sm) ?_ hl';exact s2.free hD
abbrev ND:List Str:=["_law_cell","_law_many","_law_names"]
theorem scD:aO ND ["_law_cell"] (aA nN):=xfs
theorem aAt {f fM fB:Addr}{fd fdM fdB:FuncData}(F:Fun K "_law_deeds_by" "_law_deeds_by" nN f fd)(T:Txt K mg)
  (FM:Fun K "_law_mixed" "_law_mixed" rR fM fdM)(bM:aS K fdM ["_law_cell","_law_k"] [])(mM:mg "_law_mixed" = some (.ref fM))
  (FB:Fun K "_law_names_by" "_law_names_by" kP fB fdB)(bB:aS K fdB ["_law_cell","_law_many"] [])(mB:mg "_law_names_by" = some (.ref fB)):aP P w K mg base CX0 2 f fd ["_law_cell"] (uG K):=by
 have GM:aP P w K mg base CX0 1 fM fdM ["_law_cell","_law_k"] vH:=xY FM;have GB:aP P w K mg base CX0 1 fB fdB ["_law_cell","_law_many"] (uC K):=aAp FB T;refine F.ok scD (λvs H Q E h=>?_) (λcdv A outer s H vs Q E hr h=>?_)
 ·obtain⟨c,rfl,_⟩:=h;rfl
 ·obtain⟨c,rfl,q⟩:=h
  refine⟨_,aJ (bO (i:=1) scD.nd rfl (xBg rfl) (cQ dD (aV (pac aN (pac aN (pac aN (pac aN (pac aN (pac aN (pac aN (pac aN aE))))))))) (bX dU (pv 0) aN) (λ_ _=>rfl)))
   (nV (λσ H'=>σ=[some (.int c),some (.int (eP c)),none]/\aM H H')
    (cM (aX iX (bX dU (bX gU (pv 0) aN) aN) aN (bJ _))
     (aK (bO (i:=1) scD.nd rfl (xBg rfl) (bX dU (bX gU (pv 0) aN) aN))) aZ)
   (aJ (bO (i:=2) scD.nd rfl (xBg rfl) (aR GB hr rfl mB FB.kp bB .nil aY (pac (bX gU (pv 0) aN) (pac (pv 1) aE))))
   (aK (aQ (cU (pac (pv 2) (pac (gI (N':=["_law_k","_law_name","_law_cell"]) (nown:=2) (js:=[0]) rfl
     xbs (dF (aA nN) ND rfl rfl (by decide +kernel))
     ⟨λ_ _ _ _=>show PG _ _ (aKt K 2 (mC (jI 0) (mC (jI 1) aKu))) from iK rfl (cB (aW (i:=0) (show List.Nodup (["_law_k","_law_name","_law_cell"]:List Str) by decide +kernel) rfl (xBg rfl) (.inr rfl)) (cB (aW (i:=1) (show List.Nodup (["_law_k","_law_name","_law_cell"]:List Str) by decide +kernel) rfl (xBg rfl) (.inr rfl)) gH)),
      λ_ _ _ _=>vU (aX iX (bX dU (aR GM hr rfl mM FM.kp bM .nil aY (pac (pv 2) (pac (pv 0) aE))) aN) aN (bJ _)),
      λ_ _ _ _=>pv 1⟩
     (aDb rfl T.enum (pac (pv 2) aE))) aE))))))),?_⟩
  have sl:sizeLine=16777216:=sizeLine_eq;have g8:=cV c (m:=8) (by decide);refine⟨by show 8<=sizeLine; decide,λp hp=>⟨_,rfl,_,_,rfl,rfl,(by show (0:Int)<8; decide),p,_,_,V.int _,rfl,rfl,SqL.of aD,gL V.int [2,3,3,4,4,5,6,12] 0 g8.1 g8.2,?_,?_⟩⟩
  ·have s1:∀ o,aM H (upd H p o):=λo b u e=>by rw[aH (aI e hp)]; exact e
   refine⟨_,rfl,_,_,rfl,rfl,⟨by decide,by decide⟩,_,_,rfl,rfl,(by show (0:Int)<16; decide),rfl,_,rfl,gK (λh1=>?_) (λh1=>?_)⟩
   ·have e1:c/8%16=1:=by have:=xAt h1; exact V.int.inj this
    have g2:=cV (c/128) (m:=2) (by decide);refine⟨_,rfl,_,_,rfl,rfl,⟨by decide,by decide⟩,_,_,rfl,rfl,(by show (0:Int)<2; decide),?_,s1 _⟩;have e:((eP c:Nat):Int)=c/128%2:=by unfold eP; rw[xAz e1]; omega
    rw[e];rfl
   ·have e1:¬ c/8%16=1:=λz=>h1 (xAm (congrArg V.int z));refine⟨?_,s1 _⟩;have e:((eP c:Nat):Int)=([2,3,3,4,4,5,6,12]:List Int).getD (c%8).toNat 0:=by unfold eP; rw[xAw e1]; exact (uQ c).2.symm
    rw[e];rfl
  ·rintro σ H1 ⟨rfl,s1⟩;refine⟨_,rfl,_,_,rfl,rfl,⟨by decide,by decide⟩,_,rfl,c/256,eP c,rfl,xAs (lS c) (by decide),λl H2 s2 hl hl2=>?_⟩;generalize hss:dN (c/256) (eP c)=ss at *;have hlen:ss.length=eP c:=by rw[<- hss]; unfold dN; rw[xAa,xCo]
   have hle:=lS c;refine⟨_,rfl,_,rfl,l,rfl,⟨_,SqL.of hl2⟩,λD hD=>aLf (xs:=ss.map V.str) (λi σ' H'=>∃ v0 v1,σ'=[v0,v1,some (.int c)]/\H' D=some (.lst ((kZ c ss i).map V.str))/\aM H2 H'/\(kZ c ss i).length<=i) ?_ ?_ ?_ ?_⟩
   ·exact⟨none,none,rfl,aD,λb o e=>by rw[aH (aI e hD)]; exact e,xAh _⟩
   ·rintro i σ' H' _ ⟨v0,v1,rfl,h1,h2,h3⟩;exact SqL.of (h2 l _ hl2)
   ·rintro i x σ' H' t hx ⟨v0,v1,rfl,h1,h2,h3⟩ ht;rw[xAj] at hx;cases hz:ss[i]? with
    | none=>rw[hz] at hx; cases hx
    | some z=>
     rw[hz] at hx;cases hx;have hi:i<ss.length:=(xAd.mp hz).1;have nD:D≠t:=λe=>by rw[e,ht] at h1; cases h1
     have sT:aM H2 (upd H' t (.tup [.int i,.str z])):=λb o e=>by rw[aH (aI (h2 b o e) ht)]; exact h2 b o e
     refine⟨t,_,rfl,SqT.of aD,rfl,_,_,rfl,_,_,rfl,rfl,_,rfl,_,rfl,c,i,rfl,_,_,rfl,rfl,(by show (0:Int)<4; decide),rfl,_,rfl,gK (λh4=>?_) (λh4=>?_)⟩
     ·have e4:RW.mixed c i%4=1:=by have:=xAt h4; exact V.int.inj this
      have eu:kZ c ss (i+1)=kZ c ss i++[z]:=by
       unfold kZ;rw[xEp,xFy];simp[e4,hz]
      refine⟨_,rfl,_,by rw[aH nD]; exact h1,bS (by rw[xAa]; omega),some (.int i),some (.str z),rfl,?_,?_,?_⟩
      ·rw[aD,eu,xAx];rfl
      ·intro b o e;rw[aH (aI e hD)];exact sT b o e
      ·rw[eu,xAn];show _+1<=_;omega
     ·have e4:¬ RW.mixed c i%4=1:=λz=>h4 (xAm (congrArg V.int z))
      have eu:kZ c ss (i+1)=kZ c ss i:=by
       unfold kZ;rw[xEp,xFy];simp[e4]
      refine⟨some (.int i),some (.str z),rfl,?_,sT,by rw[eu]; omega⟩;rw[aH nD,eu];exact h1
   ·rintro σ' H' ⟨v0,v1,rfl,h1,h2,h3⟩;refine⟨by show 2<=sizeLine; decide,λt ht=>?_⟩;rw[xAa] at h1;have sT:∀ o,aM H' (upd H' t o):=λo b u e=>by rw[aH (aI e ht)]; exact e
    exact q t l D _ (((s1.trans s2).trans h2).trans (sT _)) aD (sT _ _ _ (h2 l _ hl2)) (sT _ _ _ h1)
theorem aDh:∀ x y:List Nat,xBs x y=false->xBs y x=false->x=y
 | [],[],_,_=>rfl
 | [],_::_,h,_=>by simp[PySem.Spec.ltCps] at h
 | _::_,[],_,h=>by simp[PySem.Spec.ltCps] at h
 | a::r,b::t,h,h'=>by
  simp only[PySem.Spec.ltCps,Bool.or_eq_false_iff,decide_eq_false_iff_not,Bool.and_eq_false_iff,beq_eq_false_iff_ne] at h h';have e:a=b:=by omega
  subst e;have h1:xBs r t=false:=by rcases h.2 with z | z; exact xAu rfl z; exact z
  have h2:xBs t r=false:=by rcases h'.2 with z | z; exact xAu rfl z; exact z
  rw[aDh r t h1 h2]
theorem aPc:∀ x y z:List Nat,xBs y x=false->xBs z y=false->xBs z x=false
 | [],_,[],_,_=>rfl
 | [],_,_::_,_,_=>rfl
 | _::_,[],_,h,_=>by simp[PySem.Spec.ltCps] at h
 | _::_,_::_,[],_,h=>by simp[PySem.Spec.ltCps] at h
 | a::r,b::t,c::u,h,h'=>by
  simp only[PySem.Spec.ltCps,Bool.or_eq_false_iff,decide_eq_false_iff_not,Bool.and_eq_false_iff,beq_eq_false_iff_ne] at h h' ⊢;refine⟨by omega,?_⟩
  by_cases e:c=a
  ·refine .inr ?_;have h1:xBs t r=false:=by rcases h.2 with z | z; exact xAu (by omega) z; exact z
   have h2:xBs u t=false:=by rcases h'.2 with z | z; exact xAu (by omega) z; exact z
   exact aPc r t u h1 h2
  ·exact .inl e
abbrev leS (a b:Str):Prop:=xBs b.cps.toList a.cps.toList=false
theorem rX:∀ (r:List Str) (p:Str),PyProof.Rows.risingS p r=true->(∀ z∈r,leS p z)/\r.Pairwise leS
 | [],_,_=>⟨λ_ h=>xAu h (by simp),xFg⟩
 | x::r,p,h=>by
  simp only[PyProof.Rows.risingS,Bool.and_eq_true,Bool.not_eq_true'] at h;obtain⟨h1,h2⟩:=rX r x h.2;refine⟨λz hz=>?_,.cons h1 h2⟩;rcases xAk.mp hz with rfl | hz
  ·exact h.1
  ·exact aPc _ _ _ h.1 (h1 z hz)
theorem oU {l:List Str}(h:xBt l=true):l.Pairwise leS:=by
 cases l with
 | nil=>exact .nil
 | cons x r=>
  obtain⟨h1,h2⟩:=rX r x h;exact .cons h1 h2
theorem aDc:∀ (l m:List Str),l.Perm m->l.Pairwise leS->m.Pairwise leS->l=m
 | [],m,p,_,_=>(List.Perm.nil_eq p)
 | a::r,[],p,_,_=>by have:=p.length_eq; simp at this
 | a::r,b::t,p,h,h'=>by
  have e:a=b:=by
   by_cases e:a=b
   ·exact e
   ·have h1:a∈t:=by
     rcases xAk.mp (p.mem_iff.mp (xBm ..)) with z | z
     ·exact xAu z e
     ·exact z
    have h2:b∈r:=by
     rcases xAk.mp (p.mem_iff.mpr (xBm ..)) with z | z
     ·exact xAu z.symm e
     ·exact z
    have g1:leS a b:=xHi h h2;have g2:leS b a:=xHi h' h1;have g:=aDh _ _ g2 g1;obtain⟨⟨x⟩⟩:=a;obtain⟨⟨y⟩⟩:=b;have g':x=y:=g;rw[g']
  subst e;rw[aDc r t p.cons_inv (xIn h) (xIn h')]
theorem zS {l m s:List Str}(p:l.Perm s)(q:m.Perm s)(h:xBt l=true)(h':xBt m=true):l=m:=
 aDc l m (p.trans q.symm) (oU h) (oU h')
def aDg (r s k:Nat):Str:=jA.getD ((r+s*k)%12) ""
theorem aNc (c:Int)(m:Nat):((c+(m:Int))%12).toNat=((c%12).toNat+m)%12:=by
 have h:=cV c (m:=12) (by decide);have e:c%12=((c%12).toNat:Int):=(Int.toNat_of_nonneg h.1).symm;generalize (c%12).toNat=r at e;rw[<- Int.emod_add_emod,e,<- Int.natCast_add];exact congrArg Int.toNat (Int.natCast_emod (r+m) 12).symm
theorem aJz (c:Int)(k:Nat):pG c k=aDg (c%12).toNat (gQ c).toNat k:=by
 unfold pG aDg;congr 1;rcases jM c with e | e | e | e
 ·rw[e];exact aNc c (1*k)
 ·rw[e];exact aNc c (5*k)
 ·rw[e];exact aNc c (7*k)
 ·rw[e];exact aNc c (11*k)
theorem aWl {α:Type}{p:List α->Prop}(h:∀ a,p [a]):∀ us:List α,us.length=1->p us
 | [a],_=>h a
theorem aTc {α:Type}{p:List α->Prop}(h:∀ a b,p [a,b]):∀ us:List α,us.length=2->p us
 | [a,b],_=>h a b
theorem aTb {α:Type}{p:List α->Prop}(h:∀ a b c,p [a,b,c]):∀ us:List α,us.length=3->p us
 | [a,b,c],_=>h a b c
theorem aQz:∀ r,r<12->∀ s∈([1,5,7,11]:List Nat),((List.range 12).map (aDg r s)).Nodup:=by decide +kernel
theorem zU:∀ z∈jA,aU z=true:=by decide +kernel
theorem aAz (c:Int)(k:Nat):pG c k∈jA:=by
 unfold pG;have h:=cV (c+gQ c*k) (m:=12) (by decide);have hl:((c+gQ c*k)%12).toNat<jA.length:=by show _<12; omega
 rw[xBv,xAi hl];exact xCl hl
theorem yD {c:Int}{n:Nat}{z:Str}(h:z∈dN c n):z∈jA:=by
 obtain⟨k,_,rfl⟩:=xAo.mp h;exact aAz c k
theorem tP (c:Int){n:Nat}(hn:n<=12):(dN c n).Nodup:=by
 have h:=cV c (m:=12) (by decide);have hs:(gQ c).toNat∈([1,5,7,11]:List Nat):=by rcases jM c with e | e | e | e <;> rw[e] <;> decide
 have hN:=aQz (c%12).toNat (by omega) _ hs
 have e:dN c n=((List.range 12).map (aDg (c%12).toNat (gQ c).toNat)).take n:=by
  unfold dN;rw[<- xHw,List.take_range,xFt hn];exact xGj λk _=>aJz c k
 rw[e];exact hN.sublist (xGv n _)
theorem xJ:∀ (pre seen suf:List Str),(∀ z∈pre,aU z=true)->(seen++pre).Nodup->tO seen (pre++suf)=tO (seen++pre) suf
 | [],seen,suf,_,_=>by simp
 | z::r,seen,suf,h,hn=>by
  show (if aU z=true then (if z∈seen then some Why.twice else tO (seen++[z]) (r++suf)) else some .noName)=_
  have hz:z∉seen:=λm=>by
   have:=(xFd.mp hn).2.2 z m z (xBm ..)
   exact this rfl
  rw[xAz (h z (xBm ..)),xAw hz,xJ r (seen++[z]) suf (λy hy=>h y (xBi _ hy)) (by simpa using hn)]
  simp
theorem aAh {ss:List Str}(h:ss.length<=12)(hn:∀ z∈ss,aU z=true)(hd:ss.Nodup):iU ss=none:=by
 unfold iU;rw[xAw (by omega)]
 have:=xJ ss [] [] hn (by simpa using hd)
 rw[xBk] at this;rw[this];rfl
theorem aBm {c:Int}{ss:List Str}{z:Str}(h:z∈pO c ss):z∈ss:=by
 unfold pO at h;obtain⟨k,_,e⟩:=xDa.mp h;split at e
 ·exact xBe e
 ·cases e
theorem aBn (c:Int)(ss:List Str):(pO c ss).length<=ss.length:=by
 unfold pO;exact xAs (xHp ..) (by rw[xCo]; exact xAh _)
theorem aLb {ss fs:List Str}(h:ss.length<=12)(hn:∀ z∈ss,aU z=true)(hd:ss.Nodup)(hf:∀ z∈fs,z∈ss):lC ss fs=none:=by
 unfold lC;rw[aAh h hn hd];exact xAz (xBn.mpr λz hz=>by rw[hn z (hf z hz),xAm (hf z hz)]; rfl)
end
end K34
namespace K34
open PySem L2 Ky PySem.W
seal L2.PE L2.PS L2.PSs L2.PA L2.PT L2.PW L2.PG L2.PI L2.PTs L2.PO L2.OpR L2.IxR L2.CallR L2.MtM L2.MtR
unseal L2.MtM L2.MtR
theorem aEg {n:Nat}(h:n<=4000):n<sizeLine:=xCs h (by decide)
section
variable {P:Program}{w:World}{K:xAb}{mg:xSO}{base:Heap}
theorem aHj:aO ["begin","ends","doors","rooms","room","deed","far"] ["begin","ends","doors"] (aA zY):=xfs
theorem aIy {f:Addr}{fd:FuncData}(F:Fun K "named_rooms" "named_rooms" zY f fd):aP P w K mg base CX0 1 f fd ["begin","ends","doors"] aCh:=by
 refine F.ok aHj (λvs H Q E h=>?_) (λcdv A outer s H vs Q E hr h=>?_)
 ·obtain⟨b,e,d,es,ds,rfl,_⟩:=h;rfl
 ·obtain⟨b,e,d,es,ds,rfl,hE,hD,hle,hld,q⟩:=h
  refine⟨_,aJ (bO (i:=3) aHj.nd rfl (xBg rfl) (aV (pac (pv 0) aE)))
   (aJ (cX (kU xBq xEa xDz lQ (pv 3) (pac (pv 1) aE)))
   (aJ (eV PassesOwn.never rfl (dC (pv 2)) (iK rfl (cB (aW (i:=4) aHj.nd rfl (xBg rfl)) (cB (aW (i:=5) aHj.nd rfl (xBg rfl)) (cB (aW (i:=6) aHj.nd rfl (xBg rfl)) gH))))
    (aJ (cX (kU xBq xDh xDg iF (pv 3) (pac (pv 4) aE)))
    (aK (cX (kU xBq xDh xDg iF (pv 3) (pac (pv 6) aE))))))
   (aK (aQ (pv 3))))),?_⟩
  obtain⟨ts,hd,htl,htt⟩:=hD.ex;refine⟨_,rfl,by show 1<=sizeLine; decide,λp hp=>⟨_,rfl,.inl ⟨rfl,_,SqL.of aD⟩,_,rfl,p,e,_,_,rfl,rfl,aD,smu hp _ _ hE,jN (by rw[xAa]; show 1+_<=_; omega),?_⟩⟩;have s0:aM H _:=smu (o:=.lst [.str b]) hp;have s1:∀ ys,aM H (upd (upd H p (.lst [.str b])) p (.lst ys)):=λys c o h=>by rw[aH (aI h hp)]; exact s0 c o h
  refine⟨_,rfl,d,rfl,⟨_,SqL.of (s1 _ _ _ hd)⟩,?_⟩;refine dY (xs:=ts.map V.ref) (λi σ H'=>∃ x4 x5 x6,σ=[some (.str b),some (.ref e),some (.ref d),some (.ref p),x4,x5,x6]/\H' p=some (.lst ((b::es++eJ (ds.take i)).map V.str))/\aM H H') ?_ ?_ ?_ ?_
  ·refine⟨none,none,none,rfl,?_,s1 _⟩;rw[aD];show some (HO.lst ([V.str b]++es.map V.str))=some (HO.lst ((b::es++[]).map V.str));rw[xBk];rfl
  ·rintro i σ H' _ ⟨x4,x5,x6,rfl,h1,h2⟩;exact SqL.of (h2 _ _ hd)
  ·rintro i x σ H' hx ⟨x4,x5,x6,rfl,h1,h2⟩;rw[xAj] at hx;cases ht:ts[i]? with
   | none=>rw[ht] at hx; cases hx
   | some t=>
    rw[ht] at hx;cases hx;have hi:i<ds.length:=by rw[<- htl]; exact (xAd.mp ht).1
    have hz:ds[i]?=some ds[i]:=xAi hi;generalize ds[i]=z at hz;have e1:=sW hz;have hl:(eJ (ds.take i)).length<=2000:=by rw[mI,xBb]; omega
    refine⟨t,_,rfl,SqT.of (h2 _ _ (htt i t z ht hz)),rfl,_,_,rfl,_,_,rfl,_,_,rfl,rfl,?_⟩;refine⟨_,rfl,.inl ⟨rfl,_,SqL.of h1⟩,_,rfl,p,_,_,rfl,rfl,h1,?_,?_⟩
    ·rw[xAa,xAn,xBf];exact xCs (m:=3001) (by omega) (by decide)
    refine⟨_,rfl,.inl ⟨rfl,_,SqL.of aD⟩,_,rfl,p,_,_,rfl,rfl,aD,?_,?_⟩
    ·rw[xAn,xAa,xAn,xBf];exact xCs (m:=3002) (by show _+1<=_; omega) (by decide)
    refine⟨_,_,_,rfl,?_,λc o h=>?_⟩
    ·rw[aD,e1]
     simp
    ·rw[aH (aI h hp),aH (aI h hp)];exact h2 c o h
  ·rintro σ H' ⟨x4,x5,x6,rfl,h1,h2⟩;rw[xAa,htl,xBa] at h1;exact⟨_,rfl,q p H' h2 hp h1⟩
theorem aSk:aO ["rooms","room"] ["rooms"] (aA oX):=xfs
theorem xX {f fN:Addr}{fd fdN:FuncData}{cl:Why->Addr}(F:Fun K "refuse_rooms" "refuse_rooms" oX f fd)(T:Txt K mg)(Ex:Exc K mg cl)
  (FN:Fun K "is_name" "is_name" nL fN fdN)(bN:aS K fdN ["thing"] [])(mN:mg "is_name" = some (.ref fN)) :
  aP P w K mg base (CXE P w) 2 f fd ["rooms"] (rJ K cl):=by
 have GN:aP P w K mg base CX0 1 fN fdN ["thing"] (rK K):=qT FN T;refine okE F aSk (λvs H Q E h=>?_) (λcdv A outer s H vs Q E hr h D=>?_)
 ·obtain⟨a,ss,rfl,_⟩:=h;rfl
 ·obtain⟨a,ss,rfl,hS,hsh,q⟩:=h
  refine⟨_,aK (eV PassesOwn.leaving rfl (dC (pv 0)) (aW (i:=1) aSk.nd rfl (xBg rfl))
    (aK (cM (gR (iJ (aR GN hr rfl mN FN.kp bN .nil aY (pac (pv 1) aE)))) (aK (eG D rfl (by rfl) Ex.nn (Ex.x .noName) (pac aL aE))) aZ))),?_⟩
  refine⟨_,rfl,a,rfl,⟨_,hS⟩,?_⟩;refine dY (xs:=ss.map V.str) (λi σ H'=>∃ nv,σ=[some (.ref a),nv]/\aM H H'/\(ss.take i).all aU=true) ?_ ?_ ?_ ?_
  ·exact⟨none,rfl,aM.refl H,rfl⟩
  ·rintro i σ H' _ ⟨nv,rfl,h1,h2⟩;exact h1.seq hS
  ·rintro i x σ H' hx ⟨nv,rfl,h1,h2⟩;rw[xAj] at hx;cases hz:ss[i]? with
   | none=>rw[hz] at hx; cases hx
   | some z=>
    rw[hz] at hx;cases hx;obtain⟨hi,hzi⟩:=xAd.mp hz;have hzl:z.length<=1000:=hsh z (xBe hz);refine⟨_,rfl,.str z,rfl,.inl ⟨z,rfl,xEg (bS hzl),λH2 sm2=>⟨_,rfl,?_⟩⟩⟩
    by_cases hn:aU z=true
    ·rw[hn];refine gF ⟨some (.str z),rfl,h1.trans sm2,?_⟩;rw[xBo,hz,xHf,h2];show (true&&(aU z&&true))=true;rw[hn];rfl
    ·rw[xCp.mpr hn];refine iD ⟨by show 1<=sizeLine; decide,?_⟩
     have:=q H2 (h1.trans sm2)
     rw[tS h2,xDd hi,hzi] at this;unfold iQ at this;rw[xAw (by rw[xGq,xCp.mpr hn]; exact xAr)] at this;exact this
  ·rintro σ H' ⟨nv,rfl,h1,h2⟩;rw[xAa,xBa] at h2
   have:=q H' h1
   unfold iQ at this;rw[xAz h2] at this;exact this
theorem aEi:aO ["rooms","doors","leads","room","deed","far"] ["rooms","doors"] (aA aAb):=xfs
theorem aJf {f:Addr}{fd:FuncData}(F:Fun K "leads_of" "leads_of" aAb f fd):aP P w K mg base CX0 1 f fd ["rooms","doors"] (aCl K):=by
 refine F.ok aEi (λvs H Q E h=>?_) (λcdv A outer s H vs Q E hr h=>?_)
 ·obtain⟨a,d,rs,ds,rfl,_⟩:=h;rfl
 ·obtain⟨a,d,rs,ds,rfl,hR,hD,hlr,hld,hin,hap,q⟩:=h;have hu:=jG hr
  refine⟨_,aJ (bO (i:=2) aEi.nd rfl (xBg rfl) kS)
   (aJ (eV PassesOwn.never rfl (dC (pv 0)) (aW (i:=3) aEi.nd rfl (xBg rfl)) (aK (jS hu (pv 2) (pv 3) kS rfl)))
   (aJ (eV PassesOwn.never rfl (dC (pv 1)) (iK rfl (cB (aW (i:=3) aEi.nd rfl (xBg rfl)) (cB (aW (i:=4) aEi.nd rfl (xBg rfl)) (cB (aW (i:=5) aEi.nd rfl (xBg rfl)) gH))))
    (aJ (cM (oY (sH hu (pv 4) (iW hu (pv 2) (pv 3) (λ_ _=>rfl)))) (aK aDa) aZ)
    (aK (jS hu (iW hu (pv 2) (pv 3) (λ_ _=>rfl)) (pv 4) (pv 5) rfl))))
   (aK (aQ (pv 2))))),?_⟩
  obtain⟨ts,hd,htl,htt⟩:=hD.ex;intro l hl;have s0:aM H (upd H l (.dK [])):=smu hl;refine⟨_,rfl,a,rfl,⟨_,s0.seq hR⟩,?_⟩;refine dY (xs:=rs.map V.str) (λi σ H'=>∃ x3 kvs g,σ=[some (.ref a),some (.ref d),some (.ref l),x3,none,none]/\eB H' l (rs.take i) [] kvs g/\(∀ z∈rs.take i,H (g z)=none)/\kvs.length<=i/\aM H H') ?_ ?_ ?_ ?_
  ·exact⟨none,[],λ_=>0,rfl,⟨aD,rfl,λz hz=>(nomatch hz),λz hz=>(nomatch hz),λz hz=>(nomatch hz),λz hz=>(nomatch hz)⟩,λz hz=>(nomatch hz),xAh _,s0⟩
  ·rintro i σ H' _ ⟨x3,kvs,g,rfl,L,hg,hk,sm⟩;exact sm.seq hR
  ·rintro i x σ H' hx ⟨x3,kvs,g,rfl,L,hg,hk,sm⟩;rw[xAj] at hx;cases hz:rs[i]? with
   | none=>rw[hz] at hx; cases hx
   | some z=>
    rw[hz] at hx;cases hx;have hi:i<rs.length:=(xAd.mp hz).1;have et:rs.take (i+1)=rs.take i++[z]:=by rw[xBo,hz]; rfl
    intro c hc;have cl:c≠l:=λe=>by rw[e,L.dk] at hc; cases hc
    have hcH:H c=none:=by
     cases e:H c with
     | none=>rfl
     | some o=>rw[sm _ _ e] at hc; cases hc
    refine⟨_,rfl,_,rfl,l,_,rfl,pS.k (k:=Sum.inr z) (by rw[aH (Ne.symm cl)]; exact L.dk) (aEg (by omega)),?_⟩;refine⟨_,_,_,rfl,by rw[et]; exact L.more hc z,λy hy=>?_,?_,λb o e=>?_⟩
    ·rw[et] at hy
     by_cases e:y=z
     ·show H (if y=z then c else g y)=none
      rw[xAz e]; exact hcH
     ·show H (if y=z then c else g y)=none
      rw[xAw e];exact hg y ((xBy.mp hy).resolve_right λw=>e (xAg.mp w))
    ·exact xAs (gE _ _ _) (Nat.succ_le_succ hk)
    ·rw[aH (aI e hl),aH (aI e hcH)];exact sm b o e
  ·rintro σ H1 ⟨x3,kvs,g,rfl,L,hg,hk,sm⟩;rw[xAa,xBa] at L hg;refine⟨_,rfl,d,rfl,⟨_,SqL.of (sm _ _ hd)⟩,?_⟩;refine dY (xs:=ts.map V.ref) (λi σ H'=>∃ x3 x4 x5,σ=[some (.ref a),some (.ref d),some (.ref l),x3,x4,x5]/\eB H' l rs (ds.take i) kvs g/\aM H H') ?_ ?_ ?_ ?_
   ·exact⟨_,_,_,rfl,L,sm⟩
   ·rintro i σ H' _ ⟨x3,x4,x5,rfl,h1,h2⟩;exact SqL.of (h2 _ _ hd)
   ·rintro i x σ H' hx ⟨x3,x4,x5,rfl,L',sm'⟩;rw[xAj] at hx;cases ht:ts[i]? with
    | none=>rw[ht] at hx; cases hx
    | some t=>
     rw[ht] at hx;cases hx;have hi:i<ds.length:=by rw[<- htl]; exact (xAd.mp ht).1
     have hz:ds[i]?=some ds[i]:=xAi hi;generalize ds[i]=z at hz;have zin:=hin z (xBe hz)
     have gv:fP H' l (.str z.1) (some (.ref (g z.1))):=by
      have:=fP.k (k:=Sum.inr z.1) L'.dk
      rw[L'.val _ zin] at this;exact this
     have gi:=fP.k (k:=Sum.inr z.2.1) (L'.dd _ zin);rw[yN (hap.at hz)] at gi;refine⟨t,_,rfl,SqT.of (sm' _ _ (htt i t z ht hz)),rfl,_,_,rfl,_,_,rfl,_,_,rfl,rfl,?_⟩;refine⟨_,rfl,_,rfl,_,rfl,l,_,rfl,gv,g z.1,none,rfl,gi,_,rfl,gF ?_⟩;refine⟨_,rfl,_,rfl,_,rfl,l,_,rfl,gv,_,rfl,g z.1,_,rfl,pS.k (k:=Sum.inr z.2.1) (L'.dd _ zin) (bS (xAs (aNn _ _) (by rw[xBb]; omega))),?_⟩;refine⟨_,_,_,rfl,L'.door hz zin hap,λb o e=>?_⟩;rw[aH (aI e (hg _ zin))];exact sm' b o e
   ·rintro σ H' ⟨x3,x4,x5,rfl,h1,h2⟩;rw[xAa,htl,xBa] at h1;exact⟨_,rfl,q l kvs g H' h2 hl hg h1⟩
abbrev NMI:List Str:=["self","deeds","begin","ends","doors","more","rooms","known"]
theorem aQc:aO NMI ["self","deeds","begin","ends","doors","more"] (aA hZ):=xfs
inductive kJ (K:xAb)(C CM:Addr)(cl:Why->Addr)(vs:List V)(H:Hp)(Q:VK)(E:XK):Prop
 | mk (x dd e d dx:Addr)(b:Str)(y:V)(es ms:List Str)(ds:List Dr)(wk:List (Key×V))(h0_:vs=[.ref x,.ref dd,.str b,.ref e,.ref d,y])(h1_:H x=some (.ins CM dx []))(h2_:WAt C H dd wk)
  (h3_:H e=some (.lst (es.map V.str)))(h4_:eD H d ds)(h5_:(y=.non/\ms=[])\/∃ m,y=.ref m/\H m=some (.lst (ms.map V.str)))
  (h6_:es.length<=200/\ds.length<=800/\ms.length<=200)(h7_:(cJ b es ds).all aU=true)(h9_:dR (dO ds ms))(h10_:Apart ds)(h11_:(mks (cJ b es ds) []).length<=60)
  (h8_:¬ ((dO ds ms).map V.str).all (cZ wk)=true->∀ H',aM H H'->E (.ref (cl .noDeed)) none H')
  (h12_:((dO ds ms).map V.str).all (cZ wk)=true->∀ (l e' k:Addr) (kvs:List (Key×V)) (g:Str->Addr) H',SameBut x H H'->MAt CM H' x dx l dd e' k b es (dO ds ms) ds kvs g->Q .non H')
theorem nJ.toD {K:xAb}{C CM:Addr}{cl:Why->Addr}{vs:List V}{H:Hp}{Q:VK}{E:XK}(h:nJ K C CM vs H Q E):kJ K C CM cl vs H Q E:=by
 obtain⟨x,dd,e,d,dx,b,y,es,ms,ds,wk,a0,a1,a2,a3,a4,a5,a6,a7,a8,a9,a10,a11,q⟩:=h;exact⟨x,dd,e,d,dx,b,y,es,ms,ds,wk,a0,a1,a2,a3,a4,a5,a6,a7,a9,a10,a11,λz=>xAu a8 z,λ_=>q⟩
theorem aP.weaker {P:Program}{w:World}{K:xAb}{mg:xSO}{base:Heap}{CX:CXT}{k:Nat}{f:Addr}{fd:FuncData}{ps:List Str}{sp sp':Sp}(G:aP P w K mg base CX k f fd ps sp)(h:∀ vs H Q E,sp' vs H Q E->sp vs H Q E):aP P w K mg base CX k f fd ps sp':=
 ⟨λvs H Q E z=>G.len vs H Q E (h _ _ _ _ z),λA outer s H args us vs Q E hr e0 hb r z=>G.run A outer s H args us vs Q E hr e0 hb r (h _ _ _ _ z)⟩
theorem aFa {f fN fR fL fK fQ C CM:Addr}{fd fdN fdR fdL fdK fdQ:FuncData}{cl:Why->Addr}(F:aLr K "__init__" "Machine.__init__" hZ f fd)(T:Txt K mg)(DC:zE K C)(MC:nA K CM)
  (mMR:∃ t,mg "MOST_ROOMS"=some (.int 60 t))
  (GN:aP P w K mg base CX0 1 fN fdN ["begin","ends","doors"] aCh)(kN:keepIn K (.ref fN)=true)(bN:aS K fdN ["begin","ends","doors"] [])(mN:mg "named_rooms" = some (.ref fN))
  (GR:aP P w K mg base (CXE P w) 2 fR fdR ["rooms"] (rJ K cl))(kR:keepIn K (.ref fR)=true)(bR:aS K fdR ["rooms"] [])(mR:mg "refuse_rooms" = some (.ref fR))
  (GL:aP P w K mg base CX0 1 fL fdL ["rooms","doors"] (aCl K))(kL:keepIn K (.ref fL)=true)(bL:aS K fdL ["rooms","doors"] [])(mL:mg "leads_of" = some (.ref fL))
  (GK:aP P w K mg base CX0 1 fK fdK ["names"] (qN K))(kK:keepIn K (.ref fK)=true)(bK:aS K fdK ["names"] [])(mK:mg "marks_of" = some (.ref fK))
  (GQ:aP P w K mg base (CXE P w) 3 fQ fdQ ["self","row"] (iE K C cl))(bQ:aS K fdQ ["self","row"] [])(mQ:eI K C "require" fQ) :
  aP P w K mg base (CXE P w) 4 f fd ["self","deeds","begin","ends","doors","more"] (kJ K C CM cl):=by
 obtain⟨tr,mMR⟩:=mMR;refine aSw F aQc (λvs H Q E h=>?_) (λcdv A outer s H vs Q E hr h D=>?_)
 ·obtain⟨x,dd,e,d,dx,b,y,es,ms,ds,wk,rfl,_⟩:=h;rfl
 ·obtain⟨x,dd,e,d,dx,b,y,es,ms,ds,wk,rfl,hx,hW,hE,hD,hM,⟨hle,hld,hlm⟩,hnm,hsh,hap,h60,qe,q⟩:=h;have hr1:bY 1 _:=hr.mono (by decide);have hr2:bY 2 _:=hr.mono (by decide)
  refine⟨_,aJ (bO (i:=6) aQc.nd rfl (xBg rfl) (aR GN hr1 rfl mN kN bN .nil aY (pac (pv 2) (pac (pv 3) (pac (pv 4) aE)))))
   (aJ (cX (aR GR hr2 rfl mR kR bR .nil (D.passes λ_ _ _ z=>z) (pac (pv 6) aE)))
   (aJ (jR (i:=7) (N':=["room","deed","far"]) (nown:=3) (js:=[]) rfl aQc.nd rfl rfl rfl
     xbs (dF (aA hZ) NMI rfl rfl (by decide +kernel))
     ⟨λ_ _ _ _=>show PG _ _ (aKt K 3 (mC (jI 0) (mC (jI 1) (mC (jI 2) aKu)))) from iK rfl (cB (aW (i:=0) (show List.Nodup (["room","deed","far"]:List Str) by decide +kernel) rfl (xBg rfl) (.inr rfl)) (cB (aW (i:=1) (show List.Nodup (["room","deed","far"]:List Str) by decide +kernel) rfl (xBg rfl) (.inr rfl)) (cB (aW (i:=2) (show List.Nodup (["room","deed","far"]:List Str) by decide +kernel) rfl (xBg rfl) (.inr rfl)) gH))),
      λ_ _ _ _=>fS,λ_ _ _ _=>pv 1⟩
     (dC (pv 4)))
   (nV (λσ H'=>∃ p c,σ=[some (.ref x),some (.ref dd),some (.str b),some (.ref e),some (.ref d),some y,some (.ref p),some (.ref c)]/\H' p=some (.lst ((cJ b es ds).map V.str))/\H' c=some (.lst ((dO ds ms).map V.str))/\aM H H')
    (cM (aX wA (pv 5) jB (bJ _)) (aK (cX (kU xBq xEa xDz lQ (pv 7) (pac (pv 5) aE)))) aZ)
   (aJ (cX (dQ (pv 1) DC.cl mQ GQ hr bQ .nil (D.passes λ_ _ _ z=>z) (pac (pv 7) aE)))
   (aJ (fX (pv 0) (aR GL hr1 rfl mL kL bL .nil aY (pac (pv 6) (pac (pv 4) aE))) rfl)
   (aJ (cM (aX pV (bV aGe (by rfl) T.len Bo.len (pac (bZ (pv 0) rfl) aE)) (eQ (v:=.int 60) (by rfl) mMR ⟨_,rfl⟩) (bJ _)) (aK aDa) aZ)
   (aJ (fX (pv 0) (pv 1) rfl)
   (aJ (fX (pv 0) (pv 2) rfl)
   (aJ (fX (pv 0) (aR GK hr1 rfl mK kK bK .nil aY (pac (pv 3) aE)) rfl)
   (aK (fX (pv 0) (aR GK hr1 rfl mK kK bK .nil aY (pac (pv 7) aE)) rfl))))))))))),?_⟩
  have hxe:∀ {a:Addr}{o:HO},H a=some o->(∀ fs,o≠.ins CM dx fs)->a≠x:=λ{a o} h n e=>by rw[e,hx] at h; exact n _ (xBj h).symm
  refine⟨_,rfl,_,rfl,_,rfl,b,e,d,es,ds,rfl,hE,hD,by omega,by omega,λp H1 s1 hp hp1=>?_⟩;refine⟨_,rfl,p,_,rfl,SqL.of hp1,rM hnm,λH2 s2=>?_⟩;unfold iQ;rw[xAz hnm];have s12:=s1.trans s2;obtain⟨ts,hd,htl,htt⟩:=(hD.same s12).ex;have hp2:=s2 _ _ hp1;clear hp1;refine⟨_,rfl,d,rfl,⟨_,SqL.of hd⟩,λc hc=>?_⟩;refine iP (xs:=ts.map V.ref) (λi σ' H'=>∃ v0 v1 v2,σ'=[v0,v1,v2]/\H' c=some (.lst (((ds.take i).map (·.2.1)).map V.str))/\aM H2 H') ?_ ?_ ?_ ?_
  ·exact⟨none,none,none,rfl,aD,smu hc⟩
  ·rintro i σ' H' _ ⟨v0,v1,v2,rfl,h1,h2⟩;exact SqL.of (h2 _ _ hd)
  ·rintro i v σ' H' hv ⟨v0,v1,v2,rfl,h1,h2⟩;rw[xAj] at hv;cases ht:ts[i]? with
   | none=>rw[ht] at hv; cases hv
   | some t=>
    rw[ht] at hv;cases hv;have hi:i<ds.length:=by rw[<- htl]; exact (xAd.mp ht).1
    have hz:ds[i]?=some ds[i]:=xAi hi;generalize ds[i]=z at hz;refine⟨t,_,rfl,SqT.of (h2 _ _ (htt i t z ht hz)),rfl,_,_,rfl,_,_,rfl,_,_,rfl,rfl,?_⟩;refine⟨_,rfl,_,h1,bS (by rw[xAa,xAa,xBb]; omega),some (.str z.1),some (.str z.2.1),some (.str z.2.2),rfl,?_,λa o h=>?_⟩
    ·rw[aD,xBo,hz]
     simp
    ·rw[aH (aI h hc)];exact h2 a o h
  ·rintro σ' H3 ⟨v0,v1,v2,rfl,h1,h2⟩;rw[xAa,htl,xBa] at h1
   have hcH:H c=none:=by
    cases h:H c with
    | none=>rfl
    | some o=>rw[s12 _ _ h] at hc; cases hc
   refine⟨?_,?_⟩
   ·rcases hM with⟨rfl,rfl⟩ | ⟨m,rfl,hm⟩
    ·refine⟨_,rfl,rfl,_,rfl,gF ?_⟩;refine⟨p,c,rfl,h2 _ _ hp2,?_,s12.trans h2⟩;rw[h1];unfold dO;rw[xBk]
    ·refine⟨_,rfl,rfl,_,rfl,iD ?_⟩;refine⟨_,rfl,.inl ⟨rfl,_,SqL.of h1⟩,_,rfl,c,m,_,_,rfl,rfl,h1,h2 _ _ (s12 _ _ hm),jN (by rw[xAa,xAa,xAa]; omega),p,c,rfl,?_,?_,λa o h=>?_⟩
     ·rw[aH (aI hp2 hc)];exact h2 _ _ hp2
     ·rw[aD];unfold dO;rw[xAx]
     ·rw[aH (aI h hcH)];exact h2 _ _ (s12 _ _ h)
   ·clear h1 h2 hp2 s12 s1 s2 hd htl htt hc hcH;rintro σ H4 ⟨p,c,rfl,hp4,hc4,s4⟩;obtain⟨wx,wf,ww,wo,hw0,hw1,hw2,hw3⟩:=hW;refine⟨_,rfl,dd,wx,wf,rfl,s4 _ _ hw0,hw1 "require" (by decide),_,rfl,dd,c,_,wk,rfl,SqL.of hc4,lO hsh,⟨wx,wf,ww,wo,s4 _ _ hw0,hw1,hw2,s4 _ _ hw3⟩,λH5 s5=>?_⟩;have s45:=s4.trans s5
    by_cases hgd:((dO ds ms).map V.str).all (cZ wk)=true
    rotate_left
    ·rw[xAw hgd];exact qe hgd H5 s45
    rw[xAz hgd];have q:=q hgd;have hx5:=s45 _ _ hx;refine⟨_,rfl,_,rfl,p,d,_,ds,rfl,SqL.of (s5 _ _ hp4),hD.same s45,by rw[xL]; omega,by omega,aKz,hap,λl kvs g H6 s6 hl hg L=>?_⟩;have hx6:=s6 _ _ hx5;have lx:l≠x:=λz=>by rw[z,hx5] at hl; cases hl
    have gx:∀ z∈cJ b es ds,g z≠x:=λz hz z'=>by have:=hg z hz; rw[z',hx5] at this; cases this
    refine⟨_,rfl,x,CM,dx,[],rfl,hx6,MC.cl,MC.nl,by decide,?_⟩
    have hkl:kvs.length<=60:=by
     have:=congrArg List.length L.keys
     rw[xAa,xAa] at this;rw[this]; exact h60
    have L7:eB (upd H6 x (.ins CM dx (eY "leads" (.ref l) []))) l (cJ b es ds) ds kvs g:=⟨by rw[aH lx]; exact L.dk,L.keys,L.val,λz hz=>by rw[aH (gx z hz)]; exact L.dd z hz,L.inj,L.ne⟩;have hx7:(upd H6 x (.ins CM dx (eY "leads" (.ref l) []))) x=some (.ins CM dx [("leads",.ref l)]):=aD;have s7:SameBut x H (upd H6 x (.ins CM dx (eY "leads" (.ref l) []))):=λa o n h=>by rw[aH n]; exact s6 _ _ (s45 _ _ h)
    have hc7:(upd H6 x (.ins CM dx (eY "leads" (.ref l) []))) c=some (.lst ((dO ds ms).map V.str)):=by
     rw[aH λz=>by rw[z,s4 _ _ hx] at hc4; cases hc4];exact s6 _ _ (s5 _ _ hc4)
    generalize upd H6 x (.ins CM dx (eY "leads" (.ref l) []))=H7 at L7 hx7 s7 hc7 ⊢;have he7:=s7 _ _ (hxe hE λ_ z=>by cases z) hE;refine⟨_,rfl,x,CM,dx,_,.ref l,rfl,hx7,MC.cl,MC.nl,by rfl,l,kvs,rfl,L7.dk,_,_,rfl,rfl,_,rfl,gK (λz=>xAu (xAt z) (by omega)) λ_=>?_⟩;refine⟨_,rfl,_,rfl,x,CM,dx,_,rfl,hx7,MC.cl,MC.nd,by show 1<1000; decide,?_⟩;refine⟨_,rfl,_,rfl,x,CM,dx,_,rfl,aD,MC.cl,MC.nf,by show 2<1000; decide,?_⟩;have hL8:∀ (f2 f3:List (Str×V)),eB (upd (upd H7 x (.ins CM dx f2)) x (.ins CM dx f3)) l (cJ b es ds) ds kvs g:=λf2 f3=>⟨by rw[aH lx,aH lx]; exact L7.dk,L7.keys,L7.val,λz hz=>by rw[aH (gx z hz),aH (gx z hz)]; exact L7.dd z hz,L7.inj,L7.ne⟩;have h8:∀ (f2 f3:List (Str×V)),SameBut x H7 (upd (upd H7 x (.ins CM dx f2)) x (.ins CM dx f3)):=λf2 f3 a o n h=>by rw[aH n,aH n]; exact h
    have cx:c≠x:=λz=>by rw[z,hx7] at hc7; cases hc7
    have ex:e≠x:=hxe hE λ_ z=>by cases z
    refine⟨_,rfl,e,es,rfl,SqL.of (h8 _ _ _ _ ex he7),by omega,λde H9 s9 hde hde9=>?_⟩;have hx9:=s9 x _ aD;have dex:de≠x:=λz=>by rw[z,aD] at hde; cases hde
    refine⟨_,rfl,x,CM,dx,_,rfl,hx9,MC.cl,MC.ne,by show 3<1000; decide,?_⟩;have s79:∀ f4:List (Str×V),SameBut x H7 (upd H9 x (.ins CM dx f4)):=λf4 a o n h=>by rw[aH n]; exact s9 _ _ (h8 _ _ _ _ n h)
    refine⟨_,rfl,c,_,rfl,SqL.of (s79 _ _ _ cx hc7),by unfold dO; rw[xAn,xAa]; omega,λdk H10 s10 hdk hdk10=>?_⟩;have hx10:=s10 x _ aD;have dkx:dk≠x:=λz=>by rw[z,aD] at hdk; cases hdk
    refine⟨_,rfl,x,CM,dx,_,rfl,hx10,MC.cl,MC.nk,by show 4<1000; decide,?_⟩;have sF:∀ f5:List (Str×V),SameBut x H7 (upd H10 x (.ins CM dx f5)):=λf5 a o n h=>by rw[aH n]; exact s10 _ _ (s79 _ _ _ n h)
    refine q l de dk kvs g _ (λa o n h=>sF _ a o n (s7 a o n h)) ⟨by rw[aD]; rfl,⟨sF _ _ _ lx L7.dk,L7.keys,L7.val,λz hz=>sF _ _ _ (gx z hz) (L7.dd z hz),L7.inj,L7.ne⟩,?_,?_⟩
    ·rw[aH dex];exact s10 _ _ (by rw[aH dex]; exact hde9)
    ·rw[aH dkx];exact hdk10
theorem oS {rs:List Str}{z:Str}:z∈unl rs []↔z∈rs:=by
 rw[aCa];exact⟨λh=>h.elim (λh=>nomatch h) id,.inr⟩
theorem aKn (k:List (Key×V))(l:List Str)(s:Str)(v:V)(h:k.map (·.1)=l.map Sum.inr):(eX k (Sum.inr s) v).map (·.1)=(if s∈l then l else l++[s]).map Sum.inr:=by
 unfold eX;rw[lJ,h]
 have m:(k.map λkv=>if kv.1=(Sum.inr s:Key) then (kv.1,v) else kv).map (·.1)=k.map (·.1):=by
  rw[xDb];refine xGj λp _=>?_;show (if p.1=_ then (p.1,v) else p).1=p.1
  split <;> rfl
 by_cases q:s∈l
 ·rw[xAz q,xAz (by rw[xDj]; exact⟨_,xAo.mpr ⟨s,q,rfl⟩,xAm rfl⟩),m,h]
 ·rw[xAw q,xAw λz=>by
   obtain⟨x,hx,e⟩:=xDj.mp z;obtain⟨y,hy,rfl⟩:=xAo.mp hx;exact q (Sum.inr.inj (xAt e)▸hy),xAx,h,xAx]
  rfl
theorem wD:∀ (ss:List Str) (k:List (Key×V)) (l:List Str),k.map (·.1)=l.map Sum.inr->(mks ss k).map (·.1)=(unl ss l).map Sum.inr
 | [],k,l,h=>h
 | s::r,k,l,h=>wD r _ _ (aKn k l s _ h)
theorem uO {kvs:List (Key×V)}{rs:List Str}(h:kvs.map (·.1)=(mks rs []).map (·.1)):kvs.map (λkv=>L2.kV kv.1)=(unl rs []).map V.str:=by
 have e:kvs.map (λkv=>L2.kV kv.1)=(kvs.map (·.1)).map L2.kV:=by rw[xDb]; rfl
 rw[e,h,wD rs [] [] rfl,xDb];rfl
theorem pH:∀ (fs:List Str) (kvs:List (Key×V)) (z:Str),(dE (mks fs kvs) (Sum.inr z)).isSome=(decide (z∈fs)||(dE kvs (Sum.inr z)).isSome)
 | [],kvs,z=>by simp[mks]
 | s::r,kvs,z=>by
  rw[mks,pH r,nG]
  by_cases h:z=s
  ·subst h
   simp
  ·rw[xAw λe=>h (Sum.inr.inj e)];simp[h]
theorem pK {kvs:List (Key×V)}{rs:List Str}(h:kvs.map (·.1)=(mks rs []).map (·.1))(z:Str):(dE kvs (Sum.inr z)).isSome=decide (z∈rs):=by
 have:=pH rs [] z
 rw[show (dE ([]:List (Key×V)) (Sum.inr z)).isSome=false from rfl,xHz] at this
 rw[<- this,<- gG,<- gG,lJ,lJ,h]
theorem gC {rs N:List Str}(h:∀ z∈rs,z∈N):(unl rs []).length<=N.length:=by
 have:∀ (l m:List Str),l.Nodup->(∀ z∈l,z∈m)->l.length<=m.length:=λl m hd hs=>by
  induction l generalizing m with
  | nil=>exact xBu _
  | cons x r ih=>
   have hn:=xCi.mp hd;have h1:=ih (m.erase x) hn.2 (λz hz=>(List.mem_erase_of_ne (λ(e:z=x)=>hn.1 (e▸hz))).mpr (hs z (xBi _ hz)));have hx:=hs x (xBm ..);have h2:=xIf hx;rw[xFe hx] at h1;simp only[List.length_cons];omega
 exact this _ _ (oR _ _ .nil) λz hz=>h z (oS.mp hz)
inductive xG (CM:Addr)(vs:List V)(H:Hp)(Q:VK)(E:XK):Prop
 | mk (x dd:Addr)(b:Str)(es kn:List Str)(ds:List Dr)(h0_:vs=[.ref x])(h1_:MM CM H x dd b es kn ds)(h2_:Q (.ref dd) H)
inductive aCj (CM:Addr)(f:Str->List Str->List Str->List Dr->List Str)(vs:List V)(H:Hp)(Q:VK)(E:XK):Prop
 | mk (x dd:Addr)(b:Str)(es kn:List Str)(ds:List Dr)(h0_:vs=[.ref x])(h1_:MM CM H x dd b es kn ds)(h2_:(unl (f b es kn ds) []).length<64)
  (h3_:∀ (l:Addr) (ts:List Str) H',aM H H'->H l=none->H' l=some (.lst (ts.map V.str))->xBt ts=true->ts.Perm (unl (f b es kn ds) [])->Q (.ref l) H')
abbrev aDl (b:Str)(es:List Str)(ds:List Dr)(z:Str):Prop:=aU z=true/\z∈cJ b es ds
inductive aCk (CM cR:Addr)(vs:List V)(H:Hp)(Q:VK)(E:XK):Prop
 | mk (x dd:Addr)(b z:Str)(es kn:List Str)(ds:List Dr)(h0_:vs=[.ref x,.str z])(h1_:MM CM H x dd b es kn ds)(h2_:z.length<=1000)(h3_:aDl b es ds z->∀ H',aM H H'->Q .non H')(h4_:¬ aDl b es ds z->∀ H',aM H H'->E (.ref cR) none H')
inductive uD (CM cR:Addr)(vs:List V)(H:Hp)(Q:VK)(E:XK):Prop
 | mk (x dd:Addr)(b z:Str)(es kn:List Str)(ds:List Dr)(h0_:vs=[.ref x,.str z])(h1_:MM CM H x dd b es kn ds)(h2_:z.length<=1000)(h3_:aDl b es ds z->∀ H',aM H H'->Q (.bl (decide (z∈es))) H')(h4_:¬ aDl b es ds z->∀ H',aM H H'->E (.ref cR) none H')
theorem aVn:aO ["self"] ["self"] (aA aBf):=xfs
theorem aFb {f CM:Addr}{fd:FuncData}(F:Fun K "deeds" "Machine.deeds" aBf f fd)(MC:nA K CM):aP P w K mg base CX0 1 f fd ["self"] (xG CM):=by
 refine F.ok aVn (λvs H Q E h=>?_) (λcdv A outer s H vs Q E hr h=>?_)
 ·obtain⟨x,dd,b,es,kn,ds,rfl,_⟩:=h;rfl
 ·obtain⟨x,dd,b,es,kn,ds,rfl,⟨dx,l,e,k,kvs,g,M⟩,q⟩:=h;exact⟨_,aK (aQ (bZ (pv 0) rfl)),_,rfl,x,CM,dx,_,_,rfl,M.ins,MC.cl,MC.nd,by rfl,q⟩
theorem aVo:aO ["self"] ["self"] (aA aBg):=xfs
theorem aFc {f CM:Addr}{fd:FuncData}(F:Fun K "begin" "Machine.begin" aBg f fd)(MC:nA K CM):aP P w K mg base CX0 1 f fd ["self"] (xH CM):=by
 refine F.ok aVo (λvs H Q E h=>?_) (λcdv A outer s H vs Q E hr h=>?_)
 ·obtain⟨x,dd,b,es,kn,ds,rfl,_⟩:=h;rfl
 ·obtain⟨x,dd,b,es,kn,ds,rfl,⟨dx,l,e,k,kvs,g,M⟩,q⟩:=h;exact⟨_,aK (aQ (bZ (pv 0) rfl)),_,rfl,x,CM,dx,_,_,rfl,M.ins,MC.cl,MC.nf,by rfl,q⟩
abbrev aKw (_b:Str)(_es kn:List Str)(_ds:List Dr):List Str:=kn
theorem aVk:aO ["self"] ["self"] (aA aBd):=xfs
theorem aEz {f CM:Addr}{fd:FuncData}(F:Fun K "knows" "Machine.knows" aBd f fd)(T:Txt K mg)(MC:nA K CM):aP P w K mg base CX0 1 f fd ["self"] (aCj CM aKw):=by
 refine F.ok aVk (λvs H Q E h=>?_) (λcdv A outer s H vs Q E hr h=>?_)
 ·obtain⟨x,dd,b,es,kn,ds,rfl,_⟩:=h;rfl
 ·obtain⟨x,dd,b,es,kn,ds,rfl,⟨dx,l,e,k,kvs,g,M⟩,h64,q⟩:=h;refine⟨_,aK (aQ (bV (oJ rfl) (by rfl) T.sorted Bo.sorted (pac (bZ (pv 0) rfl) aE))),?_⟩;exact⟨_,rfl,x,CM,dx,_,_,rfl,M.ins,MC.cl,MC.nk,by rfl,k,_,_,rfl,M.know,uO rfl,h64,λp ts' hp pm so=>q p ts' _ (smu hp) hp aD so pm⟩
theorem aWi {CM:Addr}{H:Hp}{x dx l dd e k:Addr}{b:Str}{es kn:List Str}{ds:List Dr}{kvs:List (Key×V)}{g:Str->Addr}(M:MAt CM H x dx l dd e k b es kn ds kvs g){z:Str}(hz:z∈cJ b es ds):fP H l (.str z) (some (.ref (g z))):=by
 have gv:=fP.k (k:=Sum.inr z) M.lead.dk;rw[M.lead.val z hz] at gv;exact gv
theorem aQy (ds:List Dr)(z y:Str):(dE (inn ds z) (Sum.inr y)).getD .non=oV (lB ds z y):=by rw[aNk]; rfl
theorem aVj:aO ["self","room"] ["self","room"] (aA sM):=xfs
theorem aJd {f fN CM cR:Addr}{fd fdN:FuncData}(F:Fun K "require_room" "Machine.require_room" sM f fd)(T:Txt K mg)(MC:nA K CM)(mR:mg "NoRoom" = some (.ref cR))(xR:nF K cR)
  (FN:Fun K "is_name" "is_name" nL fN fdN)(bN:aS K fdN ["thing"] [])(mN:mg "is_name" = some (.ref fN)):aP P w K mg base (CXE P w) 2 f fd ["self","room"] (aCk CM cR):=by
 have GN:aP P w K mg base CX0 1 fN fdN ["thing"] (rK K):=qT FN T;refine okE F aVj (λvs H Q E h=>?_) (λcdv A outer s H vs Q E hr h D=>?_)
 ·obtain⟨x,dd,b,z,es,kn,ds,rfl,_⟩:=h;rfl
 ·obtain⟨x,dd,b,z,es,kn,ds,rfl,⟨dx,l,e,k,kvs,g,M⟩,hz,q1,q2⟩:=h;have hu:=jG hr;refine⟨_,aK (cM (iV (gR (iJ (aR GN hr (by rfl) mN FN.kp bN .nil aY (pac (pv 1) aE)))) (hU (oY (oZ hu (pv 1) (bZ (pv 0) rfl))))).pt (aK (eG D rfl (by rfl) mR xR (pac aL aE))) aZ),?_⟩;refine⟨_,rfl,.str z,rfl,.inl ⟨z,rfl,xEg (bS hz),λH2 s2=>⟨_,rfl,?_⟩⟩⟩
  by_cases hn:aU z=true
  ·rw[hn];refine gF ⟨_,rfl,_,rfl,x,CM,dx,_,_,rfl,s2 _ _ M.ins,MC.cl,MC.nl,by rfl,l,_,rfl,fP.k (k:=Sum.inr z) (s2 _ _ M.lead.dk),_,rfl,?_⟩;rw[pK M.lead.keys z]
   by_cases hm:z∈cJ b es ds
   ·rw[xAm hm];exact gF (q1 ⟨hn,hm⟩ H2 s2)
   ·rw[xBc hm];exact iD ⟨by show 1<=sizeLine; decide,q2 (λg=>hm g.2) H2 s2⟩
  ·rw[xCp.mpr hn];exact iD ⟨by show 1<=sizeLine; decide,q2 (λg=>hn g.1) H2 s2⟩
theorem aVm:aO ["self","room"] ["self","room"] (aA aBe):=xfs
theorem aAq {f fR CM cR:Addr}{fd fdR:FuncData}(F:Fun K "is_end" "Machine.is_end" aBe f fd)(MC:nA K CM)
  (GR:aP P w K mg base (CXE P w) 2 fR fdR ["self","room"] (aCk CM cR))(bR:aS K fdR ["self","room"] [])(mR:eI K CM "require_room" fR):aP P w K mg base (CXE P w) 3 f fd ["self","room"] (uD CM cR):=by
 refine okE F aVm (λvs H Q E h=>?_) (λcdv A outer s H vs Q E hr h D=>?_)
 ·obtain⟨x,dd,b,z,es,kn,ds,rfl,_⟩:=h;rfl
 ·obtain⟨x,dd,b,z,es,kn,ds,rfl,⟨dx,l,e,k,kvs,g,M⟩,hz,q1,q2⟩:=h;have hu:=jG hr;refine⟨_,aJ (cX (dQ (pv 0) MC.cl mR GR hr bR .nil (D.passes λ_ _ _ z=>z) (pac (pv 1) aE))) (aK (aQ (aIi (sH hu (pv 1) (bZ (pv 0) rfl))))),?_⟩;refine⟨_,rfl,x,dx,_,rfl,M.ins,gD _ _ _ _ _ _ (by decide),_,rfl,x,dd,b,z,es,kn,ds,rfl,⟨dx,l,e,k,kvs,g,M⟩,hz,λgood H2 s2=>?_,λbad H2 s2=>q2 bad H2 s2⟩;have M2:=M.same s2;refine⟨_,rfl,_,rfl,x,CM,dx,_,_,rfl,M2.ins,MC.cl,MC.ne,by rfl,e,_,rfl,fP.k (k:=Sum.inr z) M2.ends,?_⟩;rw[pK rfl z];exact q1 good H2 s2
structure MW where
 b:Str
 es:List Str
 kn:List Str
 ds:List Dr
abbrev MW.rs (m:MW):List Str:=cJ m.b m.es m.ds
def parts (ms:List MW)(room:List Str)(y:Str):List (Option Str):=List.zipWith (λm z=>gZ m.ds m.kn z y) ms room
def aGl (ms:List MW)(room:List Str)(y:Str):Option (List Str):=if (parts ms room y).any (λo=>o.isNone)=true then none else some ((parts ms room y).map λo=>o.getD "")
def wkn (ms:List MW):List Str:=ms.flatMap (·.kn)
def wto (ms:List MW)(room:List Str)(y:Str):Option (List Str):=if y∈wkn ms then aGl ms room y else none
def tM (ms:List MW)(room:List Str):Bool:=(List.zipWith (λm z=>decide (z∈m.es)) ms room).all id
structure ROk (ms:List MW)(room:List Str):Prop where
 len:ms.length=room.length
 mem:∀ (i:Nat) (m:MW) (z:Str),ms[i]?=some m->room[i]?=some z->aU z=true/\z∈m.rs
structure lX (CM:Addr)(H:Hp)(x p:Addr)(ms:List MW):Prop where
 ex:∃ Xs:List Addr,H p=some (.lst (Xs.map V.ref))/\Xs.length=ms.length/\∀ (i:Nat) (X:Addr) (m:MW),Xs[i]?=some X->ms[i]?=some m->MM CM H X x m.b m.es m.kn m.ds
theorem lX.same {CM:Addr}{H H':Hp}{x p:Addr}{ms:List MW}(M:lX CM H x p ms)(sm:aM H H'):lX CM H' x p ms:=by
 obtain⟨Xs,h0,h1,h2⟩:=M.ex;exact⟨Xs,sm _ _ h0,h1,λi X m a b=>(h2 i X m a b).same sm⟩
def aBw (H:Hp)(Q:VK):Option (List Str)->Prop
 | none=>∀ H',aM H H'->Q .non H'
 | some ss=>∀ (l:Addr) H',aM H H'->H l=none->H' l=some (.tup (ss.map V.str))->Q (.ref l) H'
inductive uH (CM:Addr)(vs:List V)(H:Hp)(Q:VK)(E:XK):Prop
 | mk (x p:Addr)(ms:List MW)(h0_:vs=[.ref p])(h1_:lX CM H x p ms)(h2_:ms.length<=100)(h3_:aBw H Q (some (ms.map (·.b))))
inductive aCp (K:xAb)(CM:Addr)(vs:List V)(H:Hp)(Q:VK)(E:XK):Prop
 | mk (x p t:Addr)(ms:List MW)(room:List Str)(y:Str)(h0_:vs=[.ref p,.ref t,.str y])(h1_:lX CM H x p ms)(h2_:SqT K H t (room.map V.str))(h3_:ROk ms room)(h4_:ms.length<=100)(h5_:aBw H Q (aGl ms room y))
inductive uI (K:xAb)(CM:Addr)(vs:List V)(H:Hp)(Q:VK)(E:XK):Prop
 | mk (x p t:Addr)(ms:List MW)(room:List Str)(h0_:vs=[.ref p,.ref t])(h1_:lX CM H x p ms)(h2_:SqT K H t (room.map V.str))(h3_:ROk ms room)(h4_:ms.length<=100)(h5_:∀ H',aM H H'->Q (.bl (tM ms room)) H')
inductive uF (CM:Addr)(vs:List V)(H:Hp)(Q:VK)(E:XK):Prop
 | mk (x p:Addr)(ms:List MW)(N:List Str)(h0_:vs=[.ref p])(h1_:lX CM H x p ms)(h2_:ms.length<=10)(h3_:∀ m∈ms,∀ z∈m.kn,z∈N)(h4_:N.length<64)
  (h5_:∀ (l:Addr) (kn:List Str) H',aM H H'->H l=none->(∀ z,z∈kn↔z∈wkn ms)->H' l=some (.dK (mks kn []))->Q (.ref l) H')
theorem qY {α β γ:Type}{f:α->β->γ}:∀ {as:List α}{bs:List β}{i:Nat}{a:α}{b:β},as[i]?=some a->bs[i]?=some b->List.zipWith f (as.take (i+1)) (bs.take (i+1))=List.zipWith f (as.take i) (bs.take i)++[f a b]
 | [],_,_,_,_,h,_=>by simp at h
 | _::_,[],_,_,_,_,h=>by simp at h
 | a'::as,b'::bs,0,a,b,h1,h2=>by
  have e1:a'=a:=by simpa using h1
  have e2:b'=b:=by simpa using h2
  rw[e1,e2]
  simp
 | a'::as,b'::bs,i+1,a,b,h1,h2=>by
  have:=qY (f:=f) (as:=as) (bs:=bs) (i:=i) (a:=a) (b:=b) (by simpa using h1) (by simpa using h2)
  simp only[List.take_succ_cons,List.zipWith_cons_cons,List.cons_append] at this ⊢;rw[this]
theorem aVl:aO ["self","room","deed"] ["self","room","deed"] (aA aKg):=xfs
theorem aJe {f CM:Addr}{fd:FuncData}(F:Fun K "goes" "Machine.goes" aKg f fd)(MC:nA K CM):aP P w K mg base CX0 1 f fd ["self","room","deed"] (vI CM):=by
 refine F.ok aVl (λvs H Q E h=>?_) (λcdv A outer s H vs Q E hr h=>?_)
 ·obtain⟨x,dd,b,z,y,es,kn,ds,rfl,_⟩:=h;rfl
 ·obtain⟨x,dd,b,z,y,es,kn,ds,rfl,⟨dx,l,e,k,kvs,g,M⟩,hz,q⟩:=h;have hu:=jG hr
  refine⟨_,aJ (cM (oY (sH hu (pv 2) (bZ (pv 0) rfl))) (aK (aQ (aIh hu (iW hu (bZ (pv 0) rfl) (pv 1) (λ_ _=>rfl)) (pv 2) ⟨by rfl,by rfl,by rfl,by rfl⟩))) aZ)
   (aK (aQ (pv 1))),?_⟩
  refine⟨_,rfl,_,rfl,x,CM,dx,_,_,rfl,M.ins,MC.cl,MC.nk,by rfl,k,_,rfl,fP.k (k:=Sum.inr y) M.know,_,rfl,?_⟩;rw[pH];unfold gZ at q
  by_cases hy:y∈kn
  ·rw[xAz hy] at q;rw[xAm hy,Bool.true_or];refine iD ⟨_,rfl,x,CM,dx,_,_,rfl,M.ins,MC.cl,MC.nl,by rfl,_,rfl,l,_,rfl,aWi M hz,g z,rfl,?_,_,rfl,_,fP.k (k:=Sum.inr y) (M.lead.dd z hz),?_⟩
   ·exact .inl ⟨_,.inl (M.lead.dd z hz)⟩
   ·rw[aQy];exact q
  ·rw[xAw hy] at q;rw[xBc hy];exact gF ⟨_,rfl,q⟩
theorem nI {K:xAb}{H H':Hp}{a:Addr}{xs:List V}(h:SqT K H a xs)(e:aM H H'):SqT K H' a xs:=by
 rcases h with (h | ⟨o,h⟩) | h
 ·exact .inl (.inl (e _ _ h))
 ·exact .inl (.inr ⟨o,e _ _ h⟩)
 ·exact .inr h
theorem aJv:∀ {os:List (Option Str)},os.any (λo=>o.isNone)=false->os.map oV=(os.map λo=>o.getD "").map V.str
 | [],_=>rfl
 | none::_,h=>by simp at h
 | some z::os,h=>by
  rw[xBx,xBx,xBx,aJv (by simpa using h)];rfl
theorem aVw:aO ["machines"] ["machines"] (aA nO):=xfs
abbrev nd1:List Str:=["machine"]
theorem aAu {f fB CM:Addr}{fd fdB:FuncData}(F:Fun K "begin_of" "begin_of" nO f fd)(mT:mg "tuple" = none)(MC:nA K CM)
  (GB:aP P w K mg base CX0 1 fB fdB ["self"] (xH CM))(bB:aS K fdB ["self"] [])(mB:eI K CM "begin" fB):aP P w K mg base CX0 2 f fd ["machines"] (uH CM):=by
 refine F.ok aVw (λvs H Q E h=>?_) (λcdv A outer s H vs Q E hr h=>?_)
 ·obtain⟨x,p,ms,rfl,_⟩:=h;rfl
 ·obtain⟨x,p,ms,rfl,M,hl,q⟩:=h
  refine⟨_,aK (aQ (jF mJ (by rfl) mT Bo.tuple (pac (gI (N':=nd1) (nown:=1) (js:=[]) rfl
     xbs (dF (aA nO) ["machines"] rfl rfl (by decide +kernel))
     ⟨λ_ _ _ _=>aW (i:=0) (show List.Nodup nd1 by decide +kernel) rfl (xBg rfl) (.inr rfl),λ_ _ _ _=>fS,λ_ _ _ _=>dP (pv 0) MC.cl mB GB hr bB .nil aY⟩
     (dC (pv 0))) aE))),?_⟩
  obtain⟨Xs,h0,h1,h2⟩:=M.ex;refine⟨_,rfl,p,rfl,⟨_,SqL.of h0⟩,λD hD=>iP (xs:=Xs.map V.ref) (λi σ' H'=>∃ v,σ'=[v]/\H' D=some (.lst (((ms.take i).map (·.b)).map V.str))/\aM H H') ?_ ?_ ?_ ?_⟩
  ·exact⟨none,rfl,aD,smu hD⟩
  ·rintro i σ' H' _ ⟨v,rfl,a1,a2⟩;exact SqL.of (a2 _ _ h0)
  ·rintro i v σ' H' hv ⟨v0,rfl,a1,a2⟩;rw[xAj] at hv;cases hX:Xs[i]? with
   | none=>rw[hX] at hv; cases hv
   | some X=>
    rw[hX] at hv;cases hv;have hi:i<ms.length:=by rw[<- h1]; exact (xAd.mp hX).1
    have hm:=xAi hi;generalize ms[i]=m at hm;have MX:=(h2 i X m hX hm).same a2;obtain⟨dx,l,e,k,kvs,g,M0⟩:=MX;refine⟨_,rfl,X,dx,_,rfl,M0.ins,gD _ _ _ _ _ _ (by decide),X,x,m.b,m.es,m.kn,m.ds,rfl,⟨dx,l,e,k,kvs,g,M0⟩,_,a1,bS (by rw[xAa,xAa,xBb]; omega),_,rfl,?_,λb o z=>?_⟩
    ·rw[aD,xBo,hm]
     simp
    ·rw[aH (aI z hD)];exact a2 b o z
  ·rintro σ' H' ⟨v,rfl,a1,a2⟩;rw[xAa,h1,xBa] at a1;exact⟨D,_,rfl,.inl ⟨SqL.of a1,λl hl'=>q l _ (a2.trans (smu hl')) (a2.free hl') aD⟩⟩
abbrev NFO:List Str:=["machines","room","deed","parts"]
theorem aSo:aO NFO ["machines","room","deed"] (aA vQ):=xfs
abbrev ndf:List Str:=["machine","part","deed"]
theorem aJn {f fG CM:Addr}{fd fdG:FuncData}(F:Fun K "far_of" "far_of" vQ f fd)(mT:mg "tuple" = none)(mZ:mg "zip" = none)(MC:nA K CM)
  (GG:aP P w K mg base CX0 1 fG fdG ["self","room","deed"] (vI CM))(bG:aS K fdG ["self","room","deed"] [])(mG:eI K CM "goes" fG):aP P w K mg base CX0 2 f fd ["machines","room","deed"] (aCp K CM):=by
 refine F.ok aSo (λvs H Q E h=>?_) (λcdv A outer s H vs Q E hr h=>?_)
 ·obtain⟨x,p,t,ms,room,y,rfl,_⟩:=h;rfl
 ·obtain⟨x,p,t,ms,room,y,rfl,M,hT,R,hl,q⟩:=h
  refine⟨_,aJ (jR (i:=3) (N':=ndf) (nown:=2) (js:=[2]) rfl aSo.nd rfl rfl rfl
     xbs (dF (aA vQ) NFO rfl rfl (by decide +kernel))
     ⟨λ_ _ _ _=>show PG _ _ (aKt K 2 (mC (jI 0) (mC (jI 1) aKu))) from iK rfl (cB (aW (i:=0) (show List.Nodup ndf by decide +kernel) rfl (xBg rfl) (.inr rfl)) (cB (aW (i:=1) (show List.Nodup ndf by decide +kernel) rfl (xBg rfl) (.inr rfl)) gH)),
      λ_ _ _ _=>fS,λ_ _ _ _=>dQ (pv 0) MC.cl mG GG hr bG .nil aY (pac (pv 1) (pac (pv 2) aE))⟩
     (xP rfl mZ (pac (pv 0) (pac (pv 1) aE))))
   (aK (aQ (xV (aX aQs jB (pv 3) (by with_unfolding_all rfl)) jB (jF mJ (by rfl) mT Bo.tuple (pac (pv 3) aE))))),?_⟩
  obtain⟨Xs,h0,h1,h2⟩:=M.ex;refine⟨_,rfl,_,rfl,p,t,rfl,⟨_,SqL.of h0⟩,⟨_,hT⟩,λD hD=>aDu (xs:=Xs.map V.ref) (ys:=room.map V.str) (λi σ' H'=>∃ v0 v1,σ'=[v0,v1,some (.str y)]/\H' D=some (.lst ((parts (ms.take i) (room.take i) y).map oV))/\aM H H') ?_ ?_ ?_ ?_ ?_⟩
  ·exact⟨none,none,rfl,aD,smu hD⟩
  ·rw[xAa,xAa,h1,R.len]
  ·rintro i σ' H' _ ⟨v0,v1,rfl,a1,a2⟩;exact⟨SqL.of (a2 _ _ h0),nI hT a2⟩
  ·rintro i v1 v2 σ' H' tt hv1 hv2 ⟨w0,w1,rfl,a1,a2⟩ htt;rw[xAj] at hv1 hv2;cases hX:Xs[i]? with
   | none=>rw[hX] at hv1; cases hv1
   | some X=>
    cases hzz:room[i]? with
    | none=>rw[hzz] at hv2; cases hv2
    | some z=>
     rw[hX] at hv1;rw[hzz] at hv2;cases hv1;cases hv2;have hi:i<ms.length:=by rw[<- h1]; exact (xAd.mp hX).1
     have hm:=xAi hi;generalize ms[i]=m at hm;have s3:=a2.trans (smu (o:=.tup [.ref X,.str z]) htt);have a1':(upd H' tt (.tup [.ref X,.str z])) D=some (.lst ((parts (ms.take i) (room.take i) y).map oV)):=smu htt _ _ a1;have eT:(upd H' tt (.tup [.ref X,.str z])) tt=some (.tup [.ref X,.str z]):=aD;generalize upd H' tt (.tup [.ref X,.str z])=H3 at s3 a1' eT ⊢;obtain⟨dx,l,e,k,kvs,g,M0⟩:=(h2 i X m hX hm).same s3;refine⟨tt,_,rfl,SqT.of eT,rfl,_,_,rfl,_,_,rfl,rfl,_,rfl,X,dx,_,rfl,M0.ins,gD _ _ _ _ _ _ (by decide),_,rfl,_,rfl,X,x,m.b,z,y,m.es,m.kn,m.ds,rfl,⟨dx,l,e,k,kvs,g,M0⟩,(R.mem i m z hm hzz).2,_,a1',bS ?_,_,_,rfl,?_,λb o u=>?_⟩
     ·rw[xAa];unfold parts;rw[xGk,xBb];omega
     ·rw[aD];unfold parts;rw[qY hm hzz,xAx];rfl
     ·rw[aH (aI u hD)];exact s3 b o u
  ·rintro σ' H' ⟨v0,v1,rfl,a1,a2⟩;have e1:ms.take (Xs.map V.ref).length=ms:=by rw[xAa,h1,xBa]
   have e2:room.take (Xs.map V.ref).length=room:=by rw[xAa,h1,R.len,xBa]
   rw[e1,e2] at a1;unfold aGl at q;refine⟨_,rfl,D,parts ms room y,rfl,rfl,SqL.of a1,_,rfl,gK (λhn=>?_) (λhn=>?_)⟩
   ·rw[xAz hn] at q;exact q H' a2
   ·rw[xAw hn] at q;refine⟨_,rfl,D,_,rfl,.inl ⟨SqL.of a1,λl hl'=>q l _ (a2.trans (smu hl')) (a2.free hl') ?_⟩⟩;rw[aD,aJv (xCp.mpr hn)]
theorem gJ {P:Program}{w:World}{X:Cx}:eN (CXE P w) X E0:=by
 rintro pins σ H s e s' I ⟨_,_,_,_,_,_,_,_,_,_,_,_,_,_,_,_,_,h⟩;exact h.elim
theorem aGk {ms:List MW}{i:Nat}{m:MW}(h:ms[i]?=some m)(z:Str):z∈wkn (ms.take (i+1))↔z∈wkn (ms.take i)\/z∈m.kn:=by
 unfold wkn;rw[xBo,h]
 simp
theorem aVx:aO ["machines","room"] ["machines","room"] (aA nQ):=xfs
abbrev nda:List Str:=["machine","part"]
theorem aAv {f fE CM cR:Addr}{fd fdE:FuncData}(F:Fun K "all_at_ends" "all_at_ends" nQ f fd)(T:Txt K mg)(mZ:mg "zip" = none)(MC:nA K CM)
  (GE:aP P w K mg base (CXE P w) 3 fE fdE ["self","room"] (uD CM cR))(bE:aS K fdE ["self","room"] [])(mE:eI K CM "is_end" fE):aP P w K mg base CX0 4 f fd ["machines","room"] (uI K CM):=by
 refine F.ok aVx (λvs H Q E h=>?_) (λcdv A outer s H vs Q E hr h=>?_)
 ·obtain⟨x,p,t,ms,room,rfl,_⟩:=h;rfl
 ·obtain⟨x,p,t,ms,room,rfl,M,hT,R,hl,q⟩:=h
  refine⟨_,aK (aQ (bV (uX rfl) (by rfl) T.all Bo.all (pac (gI (N':=nda) (nown:=2) (js:=[]) rfl
     xbs (dF (aA nQ) ["machines","room"] rfl rfl (by decide +kernel))
     ⟨λ_ _ _ _=>show PG _ _ (aKt K 2 (mC (jI 0) (mC (jI 1) aKu))) from iK rfl (cB (aW (i:=0) (show List.Nodup nda by decide +kernel) rfl (xBg rfl) (.inr rfl)) (cB (aW (i:=1) (show List.Nodup nda by decide +kernel) rfl (xBg rfl) (.inr rfl)) gH)),
      λ_ _ _ _=>fS,λ_ _ _ _=>dQ (pv 0) MC.cl mE GE hr bE .nil gJ (pac (pv 1) aE)⟩
     (xP rfl mZ (pac (pv 0) (pac (pv 1) aE)))) aE))),?_⟩
  obtain⟨Xs,h0,h1,h2⟩:=M.ex;refine⟨_,rfl,_,rfl,p,t,rfl,⟨_,SqL.of h0⟩,⟨_,hT⟩,λD hD=>aDu (xs:=Xs.map V.ref) (ys:=room.map V.str) (λi σ' H'=>∃ v0 v1,σ'=[v0,v1]/\H' D=some (.lst ((List.zipWith (λm z=>decide (z∈MW.es m)) (ms.take i) (room.take i)).map V.bl))/\aM H H') ?_ ?_ ?_ ?_ ?_⟩
  ·exact⟨none,none,rfl,aD,smu hD⟩
  ·rw[xAa,xAa,h1,R.len]
  ·rintro i σ' H' _ ⟨v0,v1,rfl,a1,a2⟩;exact⟨SqL.of (a2 _ _ h0),nI hT a2⟩
  ·rintro i v1 v2 σ' H' tt hv1 hv2 ⟨w0,w1,rfl,a1,a2⟩ htt;rw[xAj] at hv1 hv2;cases hX:Xs[i]? with
   | none=>rw[hX] at hv1; cases hv1
   | some X=>
    cases hzz:room[i]? with
    | none=>rw[hzz] at hv2; cases hv2
    | some z=>
     rw[hX] at hv1;rw[hzz] at hv2;cases hv1;cases hv2;have hi:i<ms.length:=by rw[<- h1]; exact (xAd.mp hX).1
     have hm:=xAi hi;generalize ms[i]=m at hm;have s3:=a2.trans (smu (o:=.tup [.ref X,.str z]) htt);have a1':=smu (o:=.tup [.ref X,.str z]) htt _ _ a1;have eT:(upd H' tt (.tup [.ref X,.str z])) tt=some (.tup [.ref X,.str z]):=aD;generalize upd H' tt (.tup [.ref X,.str z])=H3 at s3 a1' eT ⊢;obtain⟨dx,l,e,k,kvs,g,M0⟩:=(h2 i X m hX hm).same s3;have gd:=R.mem i m z hm hzz;refine⟨tt,_,rfl,SqT.of eT,rfl,_,_,rfl,_,_,rfl,rfl,_,rfl,X,dx,_,rfl,M0.ins,gD _ _ _ _ _ _ (by decide),_,rfl,X,x,m.b,z,m.es,m.kn,m.ds,rfl,⟨dx,l,e,k,kvs,g,M0⟩,xAs (oE gd.1) (by decide),λ_ H4 s4=>?_,λbad=>xAu gd bad⟩;refine⟨_,s4 _ _ a1',bS ?_,_,_,rfl,?_,λb o u=>?_⟩
     ·rw[xAa,xGk,xBb];omega
     ·rw[aD,qY hm hzz,xAx];rfl
     ·rw[aH (aI u hD)];exact s4 _ _ (s3 b o u)
  ·rintro σ' H' ⟨v0,v1,rfl,a1,a2⟩;have e1:ms.take (Xs.map V.ref).length=ms:=by rw[xAa,h1,xBa]
   have e2:room.take (Xs.map V.ref).length=room:=by rw[xAa,h1,R.len,xBa]
   rw[e1,e2] at a1;exact⟨D,_,rfl,SqL.of a1,q H' a2⟩
abbrev NKO:List Str:=["machines","known","machine"]
theorem aQe:aO NKO ["machines"] (aA rS):=xfs
theorem aAs {f fKn fMk CM:Addr}{fd fdKn fdMk:FuncData}(F:Fun K "known_of" "known_of" rS f fd)(MC:nA K CM)
  (GKn:aP P w K mg base CX0 1 fKn fdKn ["self"] (aCj CM aKw))(bKn:aS K fdKn ["self"] [])(mKn:eI K CM "knows" fKn)
  (GMk:aP P w K mg base CX0 1 fMk fdMk ["names"] (qN K))(kMk:keepIn K (.ref fMk)=true)(bMk:aS K fdMk ["names"] [])(mMk:mg "marks_of" = some (.ref fMk)):aP P w K mg base CX0 2 f fd ["machines"] (uF CM):=by
 refine F.ok aQe (λvs H Q E h=>?_) (λcdv A outer s H vs Q E hr h=>?_)
 ·obtain⟨x,p,ms,N,rfl,_⟩:=h;rfl
 ·obtain⟨x,p,ms,N,rfl,M,hl,hN,h64,q⟩:=h
  refine⟨_,aJ (bO (i:=1) aQe.nd rfl (xBg rfl) (aV aE))
   (aJ (eV PassesOwn.never rfl (dC (pv 0)) (aW (i:=2) aQe.nd rfl (xBg rfl))
    (aK (cX (kU xBq xEa xDz lQ (pv 1) (pac (dP (pv 2) MC.cl mKn GKn hr bKn .nil aY) aE)))))
   (aK (aQ (aR GMk hr rfl mMk kMk bMk .nil aY (pac (pv 1) aE))))),?_⟩
  obtain⟨Xs,h0,h1,h2⟩:=M.ex;refine⟨by show 0<=sizeLine; decide,λD hD=>⟨_,rfl,p,rfl,⟨_,SqL.of (smu hD _ _ h0)⟩,?_⟩⟩;refine dY (xs:=Xs.map V.ref) (λi σ H'=>∃ (x2:Option V) (kn:List Str),σ=[some (.ref p),some (.ref D),x2]/\(∀ z,z∈kn↔z∈wkn (ms.take i))/\kn.length<=64*i/\H' D=some (.lst (kn.map V.str))/\aM H H') ?_ ?_ ?_ ?_
  ·exact⟨none,[],rfl,λz=>Iff.rfl,xAh _,aD,smu hD⟩
  ·rintro i σ H' _ ⟨x2,kn,rfl,b1,b2,a1,a2⟩;exact SqL.of (a2 _ _ h0)
  ·rintro i v σ H' hv ⟨x2,kn,rfl,b1,b2,a1,a2⟩;rw[xAj] at hv;cases hX:Xs[i]? with
   | none=>rw[hX] at hv; cases hv
   | some X=>
    rw[hX] at hv;cases hv;have hi:i<ms.length:=by rw[<- h1]; exact (xAd.mp hX).1
    have hm:=xAi hi;have hmm:ms[i]∈ms:=xCl hi;generalize ms[i]=m at hm hmm;obtain⟨dx,l,e,k,kvs,g,M0⟩:=(h2 i X m hX hm).same a2;have u64:(unl m.kn []).length<64:=xCs (gC λz hz=>hN m hmm z hz) h64;refine⟨_,rfl,.inl ⟨rfl,_,SqL.of a1⟩,_,rfl,X,dx,_,rfl,M0.ins,gD _ _ _ _ _ _ (by decide),X,x,m.b,m.es,m.kn,m.ds,rfl,⟨dx,l,e,k,kvs,g,M0⟩,u64,λl1 ts H2 s2 n1 g1 _ pm=>?_⟩;have tl:ts.length<64:=by rw[pm.length_eq]; exact u64
    refine⟨D,l1,_,_,rfl,rfl,s2 _ _ a1,g1,jN (by rw[xAa,xAa]; omega),?_⟩;refine⟨_,kn++ts,rfl,λz=>?_,by rw[xAn]; omega,by rw[aD,xAx],λb o u=>?_⟩
    ·rw[xBy,b1,aGk hm,pm.mem_iff,oS]
    ·rw[aH (aI u hD)];exact s2 _ _ (a2 b o u)
  ·rintro σ H' ⟨x2,kn,rfl,b1,b2,a1,a2⟩;have e1:ms.take (Xs.map V.ref).length=ms:=by rw[xAa,h1,xBa]
   rw[e1] at b1;rw[xAa,h1] at b2;refine⟨_,rfl,D,kn,rfl,SqL.of a1,by omega,λd H2 s2 n2 g2=>q d kn H2 (a2.trans s2) (a2.free n2) b1 g2⟩
def NLs (H H':Hp):Prop:=∀ b o,H b=some o->(∀ xs,o≠.lst xs)->H' b=some o
theorem aKd {CM:Addr}{H H':Hp}{x dd:Addr}{b:Str}{es kn:List Str}{ds:List Dr}(h:MM CM H x dd b es kn ds)(s:NLs H H'):MM CM H' x dd b es kn ds:=by
 obtain⟨dx,l,e,k,kvs,g,M⟩:=h;exact⟨dx,l,e,k,kvs,g,⟨s _ _ M.ins (λ_ z=>nomatch z),⟨s _ _ M.lead.dk (λ_ z=>nomatch z),M.lead.keys,M.lead.val,λz hz=>s _ _ (M.lead.dd z hz) (λ_ z=>nomatch z),M.lead.inj,M.lead.ne⟩,s _ _ M.ends (λ_ z=>nomatch z),s _ _ M.know (λ_ z=>nomatch z)⟩⟩
theorem aDf {H:Hp}{l:Addr}{xs ys:List V}(hm:H l=some (.lst xs)):NLs H (upd H l (.lst ys)):=λb o e n=>by
 rw[aH (λz=>by rw[z,hm] at e; exact n _ (xBj e).symm)];exact e
abbrev aGn (lm lk:Addr):List (Str×V):=[("machines",.ref lm),("known_marks",.ref lk)]
abbrev aOg:List Str:=["deeds","begin","knows","at","to","is_end","ways","rooms"]
theorem dL (lm lk:Addr):∀ m∈aOg,(aGn lm lk).lookup m=none:=by
 have h:∀ m∈aOg,(m==("machines" : Str))=false/\(m==("known_marks" : Str))=false:=by decide +kernel
 intro m hm;obtain⟨h1,h2⟩:=h m hm;simp only[List.lookup,h1,h2]
inductive Wv (CM CW:Addr)(H:Hp)(v x:Addr)(ms:List MW):Prop
 | mk (dv lm lk:Addr)(kn:List Str)(ins:H v=some (.ins CW dv (aGn lm lk)))(mm:lX CM H x lm ms)(dk:H lk=some (.dK (mks kn [])))(kk:∀ z,z∈kn↔z∈wkn ms)
theorem Wv.same {CM CW:Addr}{H H':Hp}{v x:Addr}{ms:List MW}(W:Wv CM CW H v x ms)(sm:aM H H'):Wv CM CW H' v x ms:=by
 obtain⟨dv,lm,lk,kn,h1,h2,h3,h4⟩:=W;exact⟨dv,lm,lk,kn,sm _ _ h1,h2.same sm,sm _ _ h3,h4⟩
structure tJ (K:xAb)(CW:Addr):Prop where
 cl:Cls K CW
 nm:dB K CW "machines"
 nk:dB K CW "known_marks"
theorem aRa {CM CW:Addr}{H H':Hp}{v dv x p:Addr}{ms:List MW}(hv:H v=some (.ins CW dv []))(s:SameBut v H H')(M:lX CM H x p ms):lX CM H' x p ms:=by
 have k:∀ {b:Addr}{o:HO},H b=some o->o≠.ins CW dv []->H' b=some o:=λ{b o} e n=>s b o (λz=>n (by rw[z,hv] at e; exact (xBj e).symm)) e;obtain⟨Xs,h0,h1,h2⟩:=M.ex;refine⟨Xs,k h0 (λz=>nomatch z),h1,λi X m a b=>?_⟩;obtain⟨dx,l,e,kk,kvs,g,M0⟩:=h2 i X m a b;exact⟨dx,l,e,kk,kvs,g,⟨k M0.ins (λz=>by cases z),⟨k M0.lead.dk (λz=>nomatch z),M0.lead.keys,M0.lead.val,λz hz=>k (M0.lead.dd z hz) (λz=>nomatch z),M0.lead.inj,M0.lead.ne⟩,k M0.ends (λz=>nomatch z),k M0.know (λz=>nomatch z)⟩⟩
inductive vG (CM CW cT:Addr)(vs:List V)(H:Hp)(Q:VK)(E:XK):Prop
 | mk (v dv x p:Addr)(ms:List MW)(N:List Str)(h0_:vs=[.ref v,.ref p])(h1_:H v=some (.ins CW dv []))(h2_:lX CM H x p ms)(h3_:1<=ms.length/\ms.length<=7)(h4_:∀ m∈ms,∀ z∈m.kn,z∈N)(h5_:N.length<64)(h6_:∀ H',SameBut v H H'->Wv CM CW H' v x ms->(∀ d xs,H d=some (.lst xs)->Wv CM CW (upd H' d (.lst [])) v x ms)->Q .non H')
 | bad (v p:Addr) (xs:List V) (h0_:vs=[.ref v,.ref p]) (h1_:H p=some (.lst xs)) (h2_:xs.length=0\/7<xs.length) (h3_:E (.ref cT) none H)
inductive rF (CM CW:Addr)(vs:List V)(H:Hp)(Q:VK)(E:XK):Prop
 | mk (v x:Addr)(ms:List MW)(h0_:vs=[.ref v])(h1_:Wv CM CW H v x ms)(h2_:1<=ms.length)(h3_:Q (.ref x) H)
inductive rG (CM CW:Addr)(vs:List V)(H:Hp)(Q:VK)(E:XK):Prop
 | mk (v x:Addr)(ms:List MW)(h0_:vs=[.ref v])(h1_:Wv CM CW H v x ms)(h2_:ms.length<=100)(h3_:aBw H Q (some (ms.map (·.b))))
structure Srt (ts:List Str)(p:Str->Prop):Prop where
 so:xBt ts=true
 nd:ts.Nodup
 mem:∀ z,z∈ts↔p z
theorem Srt.one {ts us:List Str}{p q:Str->Prop}(h:Srt ts p)(g:Srt us q)(e:∀ z,p z↔q z):ts=us:=
 zS (s:=us) ((List.perm_ext_iff_of_nodup h.nd g.nd).mpr λz=>by rw[h.mem,g.mem,e]) (List.Perm.refl _) h.so g.so
inductive rE (CM CW:Addr)(vs:List V)(H:Hp)(Q:VK)(E:XK):Prop
 | mk (v x:Addr)(ms:List MW)(N:List Str)(h0_:vs=[.ref v])(h1_:Wv CM CW H v x ms)(h2_:∀ z∈wkn ms,z∈N)(h3_:N.length<64)(h4_:∀ (l:Addr) (ts:List Str) H',aM H H'->H l=none->H' l=some (.lst (ts.map V.str))->Srt ts (λz=>z∈wkn ms)->Q (.ref l) H')
inductive xC (K:xAb)(CM CW:Addr)(vs:List V)(H:Hp)(Q:VK)(E:XK):Prop
 | mk (v x t:Addr)(ms:List MW)(room:List Str)(h0_:vs=[.ref v,.ref t])(h1_:Wv CM CW H v x ms)(h2_:SqT K H t (room.map V.str))(h3_:ROk ms room)(h4_:ms.length<=100)(h5_:∀ H',aM H H'->Q (.bl (tM ms room)) H')
theorem aUw:aO ["self","machines"] ["self","machines"] (aA aGm):=xfs
theorem aIq {f fK CM CW cT:Addr}{fd fdK:FuncData}(F:Fun K "__init__" "Woven.__init__" aGm f fd)(T:Txt K mg)(WC:tJ K CW)(mMW:∃ t,mg "MOST_WOVEN" = some (.int 7 t))(mTM:mg "TooMany" = some (.ref cT))(xTM:nF K cT)
  (GK:aP P w K mg base CX0 2 fK fdK ["machines"] (uF CM))(kK:keepIn K (.ref fK)=true)(bK:aS K fdK ["machines"] [])(mK:mg "known_of" = some (.ref fK)):aP P w K mg base (CXE P w) 3 f fd ["self","machines"] (vG CM CW cT):=by
 obtain⟨tw,mMW⟩:=mMW;refine okE F aUw (λvs H Q E h=>?_) (λcdv A outer s H vs Q E hr h D=>?_)
 ·rcases h with⟨v,dv,x,p,ms,N,rfl,_⟩ | ⟨v,p,xs,rfl,_⟩ <;> rfl
 ·refine⟨_,aJ (cM (iV (gR (rY (pv 1) (λ_=>rfl))) (hU (aX pV (bV cE (by rfl) T.len Bo.len (pac (pv 1) aE)) (eQ (v:=.int 7) (by rfl) mMW ⟨_,rfl⟩) (bJ _)))).pt (aK (eG D rfl (by rfl) mTM xTM (pac aL aE))) aZ)
   (aJ (fX (pv 0) (jF oK (by rfl) T.list Bo.list (pac (pv 1) aE)) rfl)
   (aK (fX (pv 0) (aR GK hr rfl mK kK bK .nil aY (pac (pv 1) aE)) rfl))),?_⟩
  rcases h with⟨v,dv,x,p,ms,N,rfl,hv,M,hl,hN,h64,q⟩ | ⟨v,p,xs,rfl,h0,hb,q⟩
  rotate_left
  ·cases xs with
   | nil=>exact⟨_,rfl,false,.inl ⟨_,SqL.of h0,rfl⟩,iD ⟨by show 1<=sizeLine; decide,q⟩⟩
   | cons y ys=>exact⟨_,rfl,true,.inl ⟨_,SqL.of h0,rfl⟩,gF ⟨_,rfl,p,_,rfl,.inl (SqL.of h0),_,_,rfl,rfl,_,rfl,gK (λ_=>⟨by show 1<=sizeLine; decide,q⟩) λz=>xAu (xAm (by simp only[List.length_cons] at hb ⊢; omega)) z⟩⟩
  obtain⟨Xs,h0,h1,h2⟩:=M.ex
  have hne:(Xs.map V.ref).isEmpty=false:=by
   cases Xs with
   | nil=>simp at h1; omega
   | cons _ _=>rfl
  refine⟨_,rfl,true,.inl ⟨_,SqL.of h0,by rw[hne]; rfl⟩,gF ⟨_,rfl,p,_,rfl,.inl (SqL.of h0),_,_,rfl,rfl,_,rfl,gK (λz=>xAu (xAt z) (by rw[xAa]; omega)) λ_=>?_⟩⟩;refine⟨_,rfl,p,_,rfl,.inl (SqL.of h0),λlm hlm=>⟨_,rfl,v,CW,dv,[],rfl,smu hlm _ _ hv,WC.cl,WC.nm,by decide,?_⟩⟩;have nv:lm≠v:=λz=>by rw[z,hv] at hlm; cases hlm
  generalize hH2:upd (upd H lm _) v _=H2;have s2:SameBut v H H2:=λb o n e=>by rw[<- hH2,aH n]; exact smu hlm _ _ e
  have v2:H2 v=some (.ins CW dv [("machines",.ref lm)]):=by rw[<- hH2,aD]; rfl
  have l2:H2 lm=some (.lst (Xs.map V.ref)):=by rw[<- hH2,aH nv,aD]
  clear hH2;have M2:=aRa hv s2 M
  have M2':lX CM H2 x lm ms:=by
   obtain⟨Ys,k0,k1,k2⟩:=M2.ex;have pv':p≠v:=λz=>by rw[z,hv] at h0; cases h0
   have e:=s2 _ _ pv' h0;rw[k0] at e;have e':Ys.map V.ref=Xs.map V.ref:=HO.lst.inj (xBj e);exact⟨Ys,by rw[e']; exact l2,k1,k2⟩
  refine⟨_,rfl,x,p,ms,N,rfl,M2,by omega,hN,h64,λlk kn H3 s3 hlk hkn g3=>⟨_,rfl,v,CW,dv,_,rfl,s3 _ _ v2,WC.cl,WC.nk,by show 1<1000; decide,?_⟩⟩;have kv:lk≠v:=λz=>by rw[z,v2] at hlk; cases hlk
  have M3:=M2'.same s3;have v3:=s3 _ _ v2;have sF:SameBut v H (upd H3 v (.ins CW dv (eY "known_marks" (.ref lk) [("machines",.ref lm)]))):=λb o n e=>by rw[aH n]; exact s3 _ _ (s2 b o n e)
  have vF:(upd H3 v (.ins CW dv (eY "known_marks" (.ref lk) [("machines",.ref lm)]))) v=some (.ins CW dv (aGn lm lk)):=aD;have kF:(upd H3 v (.ins CW dv (eY "known_marks" (.ref lk) [("machines",.ref lm)]))) lk=some (.dK (mks kn [])):=by rw[aH kv]; exact g3
  have MF:lX CM (upd H3 v (.ins CW dv (eY "known_marks" (.ref lk) [("machines",.ref lm)]))) x lm ms:=by
   have k:∀ {b:Addr}{o:HO},H3 b=some o->o≠.ins CW dv [("machines",.ref lm)]->(upd H3 v (.ins CW dv (eY "known_marks" (.ref lk) [("machines",.ref lm)]))) b=some o:=λ{b o} e n=>by
    rw[aH (λz=>n (by rw[z,v3] at e; exact (xBj e).symm))];exact e
   obtain⟨Ys,k0,k1,k2⟩:=M3.ex;refine⟨Ys,k k0 (λz=>nomatch z),k1,λi X m a b=>?_⟩;obtain⟨dx,l,e,kk,kvs,g,M0⟩:=k2 i X m a b;exact⟨dx,l,e,kk,kvs,g,⟨k M0.ins (λz=>by cases z),⟨k M0.lead.dk (λz=>nomatch z),M0.lead.keys,M0.lead.val,λz hz=>k (M0.lead.dd z hz) (λz=>nomatch z),M0.lead.inj,M0.lead.ne⟩,k M0.ends (λz=>nomatch z),k M0.know (λz=>nomatch z)⟩⟩
  refine q _ sF ⟨dv,lm,lk,kn,vF,MF,kF,hkn⟩ λd xs hd=>?_;have dv':d≠v:=λz=>by rw[z,hv] at hd; cases hd
  have hdF:=sF d _ dv' hd;have ld:lm≠d:=λz=>by rw[z,hd] at hlm; cases hlm
  generalize upd H3 v (.ins CW dv (eY "known_marks" (.ref lk) [("machines",.ref lm)]))=HF at sF vF kF MF hdF;have nk:NLs HF (upd HF d (.lst [])):=aDf hdF;obtain⟨Ys,k0,k1,k2⟩:=MF.ex;exact⟨dv,lm,lk,kn,nk _ _ vF (λ_ z=>nomatch z),⟨Ys,by rw[aH ld]; exact k0,k1,λi X m a b=>aKd (k2 i X m a b) nk⟩,nk _ _ kF (λ_ z=>nomatch z),hkn⟩
theorem aUy:aO ["self"] ["self"] (aA zI):=xfs
theorem aEr {f fD CM CW:Addr}{fd fdD:FuncData}(F:Fun K "deeds" "Woven.deeds" zI f fd)(WC:tJ K CW)(MC:nA K CM)
  (GD:aP P w K mg base CX0 1 fD fdD ["self"] (xG CM))(bD:aS K fdD ["self"] [])(mD:eI K CM "deeds" fD):aP P w K mg base CX0 2 f fd ["self"] (rF CM CW):=by
 refine F.ok aUy (λvs H Q E h=>?_) (λcdv A outer s H vs Q E hr h=>?_)
 ·obtain⟨v,x,ms,rfl,_⟩:=h;rfl
 ·obtain⟨v,x,ms,rfl,⟨dv,lm,lk,kn,hi,M,hk,hkn⟩,hl,q⟩:=h;refine⟨_,aK (aQ (dP (cQ dD (bZ (pv 0) rfl) aN (λ_ _=>rfl)) MC.cl mD GD hr bD .nil aY)),?_⟩;obtain⟨Xs,h0,h1,h2⟩:=M.ex;have hX:=xAi (l:=Xs) (i:=0) (by omega);have hm:=xAi (l:=ms) (i:=0) (by omega);generalize Xs[0]'(by omega)=X at hX;generalize ms[0]'(by omega)=m at hm;obtain⟨dx,l,e,k,kvs,g,M0⟩:=h2 0 X m hX hm;exact⟨_,rfl,v,CW,dv,_,_,rfl,hi,WC.cl,WC.nm,by rfl,lm,_,_,.ref X,rfl,rfl,SqL.of h0,oM (j:=0) (by rw[xAj,hX]; rfl),X,dx,_,rfl,M0.ins,gD _ _ _ _ _ _ (by decide),X,x,m.b,m.es,m.kn,m.ds,rfl,⟨dx,l,e,k,kvs,g,M0⟩,q⟩
theorem aUz:aO ["self"] ["self"] (aA zJ):=xfs
theorem aEs {f fB CM CW:Addr}{fd fdB:FuncData}(F:Fun K "begin" "Woven.begin" zJ f fd)(WC:tJ K CW)
  (GB:aP P w K mg base CX0 2 fB fdB ["machines"] (uH CM))(kB:keepIn K (.ref fB)=true)(bB:aS K fdB ["machines"] [])(mB:mg "begin_of" = some (.ref fB)):aP P w K mg base CX0 3 f fd ["self"] (rG CM CW):=by
 refine F.ok aUz (λvs H Q E h=>?_) (λcdv A outer s H vs Q E hr h=>?_)
 ·obtain⟨v,x,ms,rfl,_⟩:=h;rfl
 ·obtain⟨v,x,ms,rfl,⟨dv,lm,lk,kn,hi,M,hk,hkn⟩,hl,q⟩:=h;exact⟨_,aK (aQ (aR GB hr (by rfl) mB kB bB .nil aY (pac (bZ (pv 0) rfl) aE))),_,rfl,v,CW,dv,_,_,rfl,hi,WC.cl,WC.nm,by rfl,x,lm,ms,rfl,M,hl,q⟩
theorem aUv:aO ["self"] ["self"] (aA zG):=xfs
theorem aEp {f CM CW:Addr}{fd:FuncData}(F:Fun K "knows" "Woven.knows" zG f fd)(T:Txt K mg)(WC:tJ K CW):aP P w K mg base CX0 1 f fd ["self"] (rE CM CW):=by
 refine F.ok aUv (λvs H Q E h=>?_) (λcdv A outer s H vs Q E hr h=>?_)
 ·obtain⟨v,x,ms,N,rfl,_⟩:=h;rfl
 ·obtain⟨v,x,ms,N,rfl,⟨dv,lm,lk,kn,hi,M,hk,hkn⟩,hN,h64,q⟩:=h;refine⟨_,aK (aQ (bV (oJ rfl) (by rfl) T.sorted Bo.sorted (pac (bZ (pv 0) rfl) aE))),?_⟩;exact⟨_,rfl,v,CW,dv,_,_,rfl,hi,WC.cl,WC.nk,by rfl,lk,_,_,rfl,hk,uO rfl,xCs (gC λz hz=>hN z ((hkn z).mp hz)) h64,λl ts hl' pm so=>q l ts _ (smu hl') hl' aD ⟨so,pm.nodup_iff.mpr (oR _ _ .nil),λz=>by rw[pm.mem_iff,oS,hkn]⟩⟩
theorem aUx:aO ["self","room"] ["self","room"] (aA zH):=xfs
theorem aEq {f fA CM CW:Addr}{fd fdA:FuncData}(F:Fun K "is_end" "Woven.is_end" zH f fd)(WC:tJ K CW)
  (GA:aP P w K mg base CX0 4 fA fdA ["machines","room"] (uI K CM))(kA:keepIn K (.ref fA)=true)(bA:aS K fdA ["machines","room"] [])(mA:mg "all_at_ends" = some (.ref fA)):aP P w K mg base CX0 5 f fd ["self","room"] (xC K CM CW):=by
 refine F.ok aUx (λvs H Q E h=>?_) (λcdv A outer s H vs Q E hr h=>?_)
 ·obtain⟨v,x,t,ms,room,rfl,_⟩:=h;rfl
 ·obtain⟨v,x,t,ms,room,rfl,⟨dv,lm,lk,kn,hi,M,hk,hkn⟩,hT,R,hl,q⟩:=h;exact⟨_,aK (aQ (aR GA hr (by rfl) mA kA bA .nil aY (pac (bZ (pv 0) rfl) (pac (pv 1) aE)))),_,rfl,v,CW,dv,_,_,rfl,hi,WC.cl,WC.nm,by rfl,_,rfl,x,lm,t,ms,room,rfl,M,hT,R,hl,q⟩
theorem lY {l:List Str}{p:Str->Bool}(h:xBt l=true):xBt (l.filter p)=true:=PyProof.Rows.sortedS_of_pairwise _ ((oU h).filter p)
theorem Srt.filter {l:List Str}{q:Str->Prop}(h:Srt l q)(p:Str->Bool):Srt (l.filter p) (λz=>q z/\p z=true):=
 ⟨lY h.so,h.nd.filter p,λz=>by rw[xCd,h.mem]⟩
inductive aCf (K:xAb)(C CM CW cD:Addr)(vs:List V)(H:Hp)(Q:VK)(E:XK):Prop
 | mk (v x t:Addr)(y:V)(ms:List MW)(room:List Str)(wk:List (Key×V))(h0_:vs=[.ref v,.ref t,y])(h1_:Wv CM CW H v x ms)(h2_:SqT K H t (room.map V.str))(h3_:ROk ms room)(h4_:1<=ms.length/\ms.length<=100)(h5_:WAt C H x wk)(h6_:aDy y)
  (h7_:cZ wk y=true->∀ u,y=.str u->aBw H Q (wto ms room u))(h8_:cZ wk y=false->∀ H',aM H H'->E (.ref cD) none H')
inductive aOm (K:xAb)(C CM CW:Addr)(vs:List V)(H:Hp)(Q:VK)(E:XK):Prop
 | mk (v x t:Addr)(ms:List MW)(room N:List Str)(wk:List (Key×V))(h0_:vs=[.ref v,.ref t])(h1_:Wv CM CW H v x ms)(h2_:SqT K H t (room.map V.str))(h3_:ROk ms room)(h4_:1<=ms.length/\ms.length<=100)(h5_:WAt C H x wk)(h6_:∀ z∈wkn ms,z∈N)(h7_:N.length<64)(h8_:∀ z∈N,cZ wk (.str z)=true)
  (h9_:∀ (l:Addr) (ts:List Str) H',aM H H'->H l=none->H' l=some (.lst (ts.map V.str))->Srt ts (λz=>z∈wkn ms/\(wto ms room z).isSome=true)->Q (.ref l) H')
theorem aBw.mono {H H1:Hp}{Q:VK}{o:Option (List Str)}(h:aBw H Q o)(s:aM H H1):aBw H1 Q o:=by
 cases o with
 | none=>exact λH' s'=>h H' (s.trans s')
 | some ss=>exact λl H' s' n e=>h l H' (s.trans s') (s.free n) e
theorem dS {C:Addr}{H H':Hp}{p:Addr}{kvs:List (Key×V)}(W:WAt C H p kvs)(sm:aM H H'):WAt C H' p kvs:=by
 obtain⟨dx,fs,dw,o,h0,h1,h2,h3⟩:=W;exact⟨dx,fs,dw,o,sm _ _ h0,h1,h2,sm _ _ h3⟩
theorem pN {wk:List (Key×V)}{z:Str}(h:cZ wk (.str z)=true):z.length<=1000:=xAs (oE (xCk.mp h).1) (by decide)
theorem aUt:aO ["self","room","deed"] ["self","room","deed"] (aA wTo):=xfs
theorem aQu {f fD fQ fF C CM CW:Addr}{fd fdD fdQ fdF:FuncData}{cl:Why->Addr}(F:Fun K "to" "Woven.to" wTo f fd)(DC:zE K C)(WC:tJ K CW)
  (GD:aP P w K mg base CX0 2 fD fdD ["self"] (rF CM CW))(bD:aS K fdD ["self"] [])(mD:eI K CW "deeds" fD)
  (GQ:aP P w K mg base (CXE P w) 3 fQ fdQ ["self","row"] (iE K C cl))(bQ:aS K fdQ ["self","row"] [])(mQ:eI K C "require" fQ)
  (GF:aP P w K mg base CX0 2 fF fdF ["machines","room","deed"] (aCp K CM))(kF:keepIn K (.ref fF)=true)(bF:aS K fdF ["machines","room","deed"] [])(mF:mg "far_of" = some (.ref fF)) :
  aP P w K mg base (CXE P w) 4 f fd ["self","room","deed"] (aCf K C CM CW (cl .noDeed)):=by
 refine okE F aUt (λvs H Q E h=>?_) (λcdv A outer s H vs Q E hr h D=>?_)
 ·obtain⟨v,x,t,y,ms,room,wk,rfl,_⟩:=h;rfl
 ·obtain⟨v,x,t,y,ms,room,wk,rfl,W,hT,R,hl,hW,hy,q1,q2⟩:=h;have hu:=jG hr;have hr2:bY 2 _:=hr.mono (by decide)
  refine⟨_,aJ (cX (dQ (dP (pv 0) WC.cl mD GD hr2 bD .nil aY) DC.cl mQ GQ hr bQ .nil (D.passes λ_ _ _ z=>z) (pac (aV (pac (pv 2) aE)) aE)))
   (aJ (cM (oY (oZ hu (pv 2) (bZ (pv 0) rfl))) (aK (aQ jB)) aZ)
   (aK (aQ (aR GF hr2 (by rfl) mF kF bF .nil aY (pac (bZ (pv 0) rfl) (pac (pv 1) (pac (pv 2) aE))))))),?_⟩
  obtain⟨dv,lm,lk,kn,hi,M,hk,hkn⟩:=id W;obtain⟨wx,wf,ww,wo,hw0,hw1,hw2,hw3⟩:=id hW;refine⟨_,rfl,v,dv,_,rfl,hi,dL _ _ _ (by decide),v,x,ms,rfl,W,hl.1,x,wx,wf,rfl,hw0,hw1 "require" (by decide),_,rfl,by show 1<=sizeLine; decide,λp hp=>?_⟩;have s3:=smu (o:=.lst [y]) hp;refine⟨x,p,_,wk,rfl,SqL.of aD,λu hv=>?_,dS hW s3,λH4 s4=>?_⟩
  ·rw[xAg.mp hv];exact hy
  ·have e1:([y]:List V).all (cZ wk)=cZ wk y:=by rw[xGq,List.all_nil,Bool.and_true]
   rw[e1]
   by_cases hg:cZ wk y=true
   ·rw[xAz hg]
    obtain⟨u,rfl⟩:∃ u,y=.str u:=by
     cases y with
     | str u=>exact⟨u,rfl⟩
     | _=>cases hg
    have s5:=s3.trans s4;have qq:=(q1 hg u rfl).mono s5;unfold wto at qq;refine⟨_,rfl,_,rfl,v,CW,dv,_,_,rfl,s5 _ _ hi,WC.cl,WC.nk,by rfl,lk,_,rfl,fP.k (k:=Sum.inr u) (s5 _ _ hk),_,rfl,?_⟩;rw[pK rfl u]
    by_cases hm:u∈wkn ms
    ·rw[xAm ((hkn u).mpr hm)];rw[xAz hm] at qq;exact gF ⟨_,rfl,v,CW,dv,_,_,rfl,s5 _ _ hi,WC.cl,WC.nm,by rfl,_,rfl,_,rfl,x,lm,t,ms,room,u,rfl,M.same s5,nI hT s5,R,hl.2,qq⟩
    ·rw[xBc λz=>hm ((hkn u).mp z)];rw[xAw hm] at qq;exact iD (qq H4 (aM.refl H4))
   ·rw[xAw hg];exact q2 (xCp.mpr hg) H4 (s3.trans s4)
theorem aVa:aO ["self","room"] ["self","room"] (aA wAt):=xfs
abbrev ndw:List Str:=["deed","self","room"]
theorem aQv {f fK fT C CM CW cD:Addr}{fd fdK fdT:FuncData}(F:Fun K "at" "Woven.at" wAt f fd)(WC:tJ K CW)
  (GK:aP P w K mg base CX0 1 fK fdK ["self"] (rE CM CW))(bK:aS K fdK ["self"] [])(mK:eI K CW "knows" fK)
  (GT:aP P w K mg base (CXE P w) 4 fT fdT ["self","room","deed"] (aCf K C CM CW cD))(bT:aS K fdT ["self","room","deed"] [])(mT:eI K CW "to" fT) :
  aP P w K mg base CX0 5 f fd ["self","room"] (aOm K C CM CW):=by
 refine F.ok aVa (λvs H Q E h=>?_) (λcdv A outer s H vs Q E hr h=>?_)
 ·obtain⟨v,x,t,ms,room,N,wk,rfl,_⟩:=h;rfl
 ·obtain⟨v,x,t,ms,room,N,wk,rfl,W,hT,R,hl,hW,hN,h64,hg,q⟩:=h;have hr1:bY 1 _:=hr.mono (by decide)
  refine⟨_,aK (aQ (gI (N':=ndw) (nown:=1) (js:=[0,1]) rfl
     xbs (dF (aA wAt) ["self","room"] rfl rfl (by decide +kernel))
     ⟨λ_ _ _ _=>aW (i:=0) (show List.Nodup ndw by decide +kernel) rfl (xBg rfl) (.inr rfl),
      λ_ _ _ _=>vU (aX wA (dQ (pv 1) WC.cl mT GT hr bT .nil gJ (pac (pv 2) (pac (pv 0) aE))) jB (bJ _)),
      λ_ _ _ _=>pv 0⟩
     (dC (dP (pv 0) WC.cl mK GK hr1 bK .nil aY)))),?_⟩
  obtain⟨dv,lm,lk,kn,hi,M,hk,hkn⟩:=id W;refine⟨_,rfl,v,dv,_,rfl,hi,dL _ _ _ (by decide),v,x,ms,N,rfl,W,hN,h64,λl ts H2 s2 n2 g2 S2=>⟨l,rfl,⟨_,SqL.of g2⟩,λD hD=>?_⟩⟩
  have lts:ts.length<64:=by
   have:ts.length<=N.length:=by
    have:=gC (rs:=ts) (N:=N) λz hz=>hN z ((S2.mem z).mp hz)
    rw[<- (kQ (m:=unl ts []) S2.nd (λz hz=>oS.mpr hz) (gC λz hz=>hz)).length_eq] at this;exact this
   omega
  refine iP (xs:=ts.map V.str) (λi σ' H'=>∃ v0,σ'=[v0,some (.ref v),some (.ref t)]/\H' D=some (.lst (((ts.take i).filter λz=>(wto ms room z).isSome).map V.str))/\aM H2 H') ?_ ?_ ?_ ?_
  ·exact⟨none,rfl,aD,smu hD⟩
  ·rintro i σ' H' _ ⟨v0,rfl,a1,a2⟩;exact SqL.of (a2 _ _ g2)
  ·rintro i u σ' H' hv ⟨v0,rfl,a1,a2⟩;rw[xAj] at hv;cases hz:ts[i]? with
   | none=>rw[hz] at hv; cases hv
   | some z=>
    rw[hz] at hv;cases hv;have sA:=s2.trans a2;have hzk:=(S2.mem z).mp (xBe hz);have gz:=hg z (hN z hzk)
    have ef:(ts.take (i+1)).filter (λz=>(wto ms room z).isSome)=(ts.take i).filter (λz=>(wto ms room z).isSome)++(if (wto ms room z).isSome=true then [z] else []):=by
     rw[xBo,hz,List.filter_append];congr 1;show List.filter _ [z]=_;rw[xFl,List.filter_nil]
    have lf:((ts.take i).filter λz=>(wto ms room z).isSome).length<=63:=xAs (xDc ..) (by rw[xBb]; omega);refine⟨_,rfl,v,dv,_,rfl,sA _ _ hi,dL _ _ _ (by decide),_,rfl,_,rfl,v,x,t,.str z,ms,room,wk,rfl,W.same sA,nI hT sA,R,hl,dS hW sA,.inl ⟨z,rfl,pN gz⟩,λ_ u' eu=>?_,λbad=>xAu (gz.symm.trans bad) (by decide)⟩;cases eu;cases ho:wto ms room z with
    | none=>
     intro H3 s3;refine⟨rfl,_,rfl,gF ⟨_,rfl,?_,a2.trans s3⟩⟩;rw[ef,ho]
     simpa using s3 _ _ a1
    | some ss=>
     intro l3 H3 s3 n3 e3;refine⟨rfl,_,rfl,iD ⟨_,rfl,_,s3 _ _ a1,bS (by rw[xAa]; omega),_,rfl,?_,λb o e=>?_⟩⟩
     ·rw[aD,ef,ho,xAx];rfl
     ·rw[aH (aI e hD)];exact s3 _ _ (a2 b o e)
  ·rintro σ' H' ⟨v0,rfl,a1,a2⟩;rw[xAa,xBa] at a1;exact q D _ H' (s2.trans a2) (s2.free hD) a1 (S2.filter _)
def iR:List (List Str)->List (List Str)->List (List Str)
 | rs,[]=>rs
 | rs,r::fs=>iR (if r∈rs then rs else rs++[r]) fs
def gT (F:List Str->List (List Str)):Nat->List (List Str)->Nat->List (List Str)
 | 0,rs,_=>rs
 | n+1,rs,i=>if i<rs.length/\rs.length<=60 then gT F n (iR rs (F (rs.getD i []))) (i+1) else rs
theorem uW {F:List Str->List (List Str)}{n i:Nat}{rs:xLL}(h:¬ (i<rs.length/\rs.length<=60)):gT F n rs i=rs:=by
 cases n with
 | zero=>rfl
 | succ n=>unfold gT; rw[xAw h]
theorem aNv {F:List Str->List (List Str)}{i:Nat}{rs:xLL}{r:List Str}(h1:rs[i]?=some r)(h2:rs.length<=60):gT F (61-i) rs i=gT F (61-(i+1)) (iR rs (F r)) (i+1):=by
 have hi:=(xAd.mp h1).1;rw[show 61-i=(61-(i+1))+1 by omega];show (if _ then _ else _)=_
 rw[xAz ⟨hi,h2⟩,xBv,h1];rfl
theorem vC:∀ {fs rs:xLL}{r:List Str},iR rs (fs++[r])=if r∈iR rs fs then iR rs fs else iR rs fs++[r]
 | [],_,_=>rfl
 | _::fs,_,_=>vC (fs:=fs)
theorem zA:∀ {fs rs:xLL},(iR rs fs).length<=rs.length+fs.length
 | [],_=>xAh _
 | r::fs,rs=>by
  refine xAs (zA (fs:=fs)) ?_;rw[xBf]
  by_cases h:r∈rs
  ·rw[xAz h]; omega
  ·rw[xAw h,xAn,xFv]; omega
theorem tH:∀ {fs rs:xLL}{r:List Str},r∈iR rs fs->r∈rs\/r∈fs
 | [],_,_,h=>.inl h
 | x::fs,rs,r,h=>by
  rcases tH (fs:=fs) h with h | h
  ·by_cases q:x∈rs
   ·rw[xAz q] at h; exact .inl h
   ·rw[xAw q] at h;rcases xBy.mp h with h | h
    ·exact .inl h
    ·exact .inr (by rw[xAg.mp h]; exact xBm ..)
  ·exact .inr (xBi _ h)
structure tI (H:Hp)(l:Addr)(fs:List (Str×List Str)):Prop where
 ex:∃ ts:List Addr,H l=some (.lst (ts.map V.ref))/\ts.length=fs.length/\∀ (i:Nat) (t:Addr) (p:Str×List Str),ts[i]?=some t->fs[i]?=some p->∃ u,H t=some (.tup [.str p.1,.ref u])/\H u=some (.tup (p.2.map V.str))
theorem tI.same {H H':Hp}{l:Addr}{fs:List (Str×List Str)}(M:tI H l fs)(s:aM H H'):tI H' l fs:=by
 obtain⟨qs,h0,h1,h2⟩:=M.ex;exact⟨qs,s _ _ h0,h1,λi q m a b=>let ⟨u,x,y⟩:=h2 i q m a b; ⟨u,s _ _ x,s _ _ y⟩⟩
def aLl (H:Hp)(fs:List (Str×List Str))(Q:VK):Prop:=∀ (l:Addr) H',aM H H'->H l=none->tI H' l fs->Q (.ref l) H'
def cY (ms:List MW)(ts:List Str)(room:List Str):List (Str×List Str):=ts.map λz=>(z,(wto ms room z).getD [])
def jC (ms:List MW)(S:List Str)(room:List Str):List Str:=S.filter λz=>(wto ms room z).isSome
theorem aDo {ms:List MW}{room:List Str}:∀ (S:List Str),(cY ms (jC ms S room) room).map (·.2)=S.filterMap (wto ms room)
 | []=>rfl
 | z::S=>by
  have ih:=aDo (ms:=ms) (room:=room) S;unfold jC cY at ih ⊢;cases h:wto ms room z with
  | none=>rw[List.filter_cons_of_neg (by rw[h]; simp),List.filterMap_cons_none h]; exact ih
  | some r=>rw[List.filter_cons_of_pos (by rw[h]; rfl),List.filterMap_cons_some h,xBx,xBx,ih,h]; rfl
theorem aGj {ms:List MW}{room:List Str}{z:Str}(h:(wto ms room z).isSome=true):z∈wkn ms:=by
 unfold wto at h
 by_cases q:z∈wkn ms
 ·exact q
 ·rw[xAw q] at h; cases h
inductive qL (K:xAb)(C CM CW:Addr)(vs:List V)(H:Hp)(Q:VK)(E:XK):Prop
 | mk (v x t:Addr)(ms:List MW)(room S:List Str)(wk:List (Key×V))(h0_:vs=[.ref v,.ref t])(h1_:Wv CM CW H v x ms)(h2_:H t=some (.tup (room.map V.str)))(h3_:ROk ms room)(h4_:1<=ms.length/\ms.length<=100)(h5_:WAt C H x wk)(h6_:∀ z∈wkn ms,z∈S)(h7_:S.length<64)(h8_:∀ z∈S,cZ wk (.str z)=true)
  (h9_:xBt S=true)(h10_:S.Nodup)(h11_:aLl H (cY ms (jC ms S room) room) Q)
theorem aUs:aO ["self","room"] ["self","room"] (aA aBy):=xfs
theorem aIp {f fA fT C CM CW cD:Addr}{fd fdA fdT:FuncData}(F:Fun K "ways" "Woven.ways" aBy f fd)(WC:tJ K CW)
  (GA:aP P w K mg base CX0 5 fA fdA ["self","room"] (aOm K C CM CW))(bA:aS K fdA ["self","room"] [])(mA:eI K CW "at" fA)
  (GT:aP P w K mg base (CXE P w) 4 fT fdT ["self","room","deed"] (aCf K C CM CW cD))(bT:aS K fdT ["self","room","deed"] [])(mT:eI K CW "to" fT) :
  aP P w K mg base CX0 6 f fd ["self","room"] (qL K C CM CW):=by
 refine F.ok aUs (λvs H Q E h=>?_) (λcdv A outer s H vs Q E hr h=>?_)
 ·obtain⟨v,x,t,ms,room,S,wk,rfl,_⟩:=h;rfl
 ·obtain⟨v,x,t,ms,room,S,wk,rfl,W,hT,R,hl,hW,hN,h64,hg,so,nd,q⟩:=h
  refine⟨_,aK (aQ (gI (N':=ndw) (nown:=1) (js:=[0,1]) rfl
     xbs (dF (aA aBy) ["self","room"] rfl rfl (by decide +kernel))
     ⟨λ_ _ _ _=>aW (i:=0) (show List.Nodup ndw by decide +kernel) rfl (xBg rfl) (.inr rfl),λ_ _ _ _=>fS,
      λ_ _ _ _=>cU (pac (pv 0) (pac (dQ (pv 1) WC.cl mT GT (hr.mono (by decide)) bT .nil gJ (pac (pv 2) (pac (pv 0) aE))) aE))⟩
     (dC (dQ (pv 0) WC.cl mA GA hr bA .nil aY (pac (pv 1) aE))))),?_⟩
  obtain⟨dv,lm,lk,kn,hi,M,hk,hkn⟩:=id W;refine⟨_,rfl,v,dv,_,rfl,hi,dL _ _ _ (by decide),_,rfl,v,x,t,ms,room,S,wk,rfl,W,SqT.of hT,R,hl,hW,hN,h64,hg,λl ts H2 s2 n2 g2 S2=>⟨l,rfl,⟨_,SqL.of g2⟩,λD hD=>?_⟩⟩;have ets:ts=jC ms S room:=S2.one (q:=λz=>z∈S/\(wto ms room z).isSome=true) ⟨lY so,nd.filter _,λz=>xCd⟩ λz=>⟨λh=>⟨hN z h.1,h.2⟩,λh=>⟨aGj h.2,h.2⟩⟩;rw[<- ets] at q;have lts:ts.length<64:=xCs (by rw[ets]; exact xDc ..) h64;refine iP (xs:=ts.map V.str) (λi σ' H'=>∃ v0,σ'=[v0,some (.ref v),some (.ref t)]/\tI H' D (cY ms (ts.take i) room)/\aM H2 H') ?_ ?_ ?_ ?_
  ·exact⟨none,rfl,⟨[],aD,rfl,λi t p z=>nomatch z⟩,smu hD⟩
  ·rintro i σ' H' _ ⟨v0,rfl,a1,a2⟩;exact SqL.of (a2 _ _ g2)
  ·rintro i u σ' H' hv ⟨v0,rfl,a1,a2⟩;rw[xAj] at hv;cases hz:ts[i]? with
   | none=>rw[hz] at hv; cases hv
   | some z=>
    rw[hz] at hv;cases hv;have sA:=s2.trans a2;have hzk:=(S2.mem z).mp (xBe hz);have gz:=hg z (hN z hzk.1);refine⟨_,rfl,_,rfl,v,dv,_,rfl,sA _ _ hi,dL _ _ _ (by decide),_,rfl,_,rfl,v,x,t,.str z,ms,room,wk,rfl,W.same sA,SqT.of (sA _ _ hT),R,hl,dS hW sA,.inl ⟨z,rfl,pN gz⟩,λ_ u' eu=>?_,λbad=>xAu (gz.symm.trans bad) (by decide)⟩;cases eu;cases ho:wto ms room z with
    | none=>rw[ho] at hzk; cases hzk.2
    | some ss=>
     intro l3 H3 s3 n3 e3;refine⟨by show 2<=sizeLine; decide,λtt htt=>?_⟩;have s4:=s3.trans (smu (o:=.tup [.str z,.ref l3]) htt);have e3':=smu (o:=.tup [.str z,.ref l3]) htt _ _ e3;have eT:(upd H3 tt (.tup [.str z,.ref l3])) tt=some (.tup [.str z,.ref l3]):=aD;generalize upd H3 tt (.tup [.str z,.ref l3])=H4 at s4 e3' eT ⊢;obtain⟨us,b0,b1,b2⟩:=(a1.same s4).ex;have ew:cY ms (ts.take (i+1)) room=cY ms (ts.take i) room++[(z,ss)]:=by unfold cY; rw[xBo,hz,xAx,Option.toList_some,List.map_singleton,ho]; rfl
     have lw:(cY ms (ts.take i) room).length<=63:=by unfold cY; rw[xAa,xBb]; omega
     refine⟨_,b0,bS (by rw[xAa]; omega),_,rfl,⟨us++[tt],by rw[aD,xAx]; rfl,by rw[ew,xAn,xAn,b1]; rfl,λj y p hy hp=>?_⟩,λb o e=>?_⟩
     ·have nt:∀ {b:Addr}{xs:List V},H4 b=some (.tup xs)->(upd H4 D (.lst (us.map V.ref++[.ref tt]))) b=some (.tup xs):=λ{b xs} e=>by
       rw[aH (λz=>by rw[z,b0] at e; cases e)];exact e
      rw[ew] at hp
      by_cases hj:j<us.length
      ·rw[xBw hj] at hy;rw[xBw (by omega)] at hp;obtain⟨u,k1,k2⟩:=b2 j y p hy hp;exact⟨u,nt k1,nt k2⟩
      ·have hl':j=us.length:=by
        have:=(xAd.mp hy).1
        rw[xAn] at this;simp only[List.length_cons,List.length_nil] at this;omega
       subst hl';rw[xCb (xAh _),xEx] at hy;rw[b1,xCb (xAh _),xEx] at hp;cases hy;cases hp;exact⟨l3,nt eT,nt e3'⟩
     ·rw[aH (aI e hD)];exact s4 _ _ (a2 b o e)
  ·rintro σ' H' ⟨v0,rfl,a1,a2⟩;rw[xAa,xBa] at a1;exact q D H' (s2.trans a2) (s2.free hD) a1
inductive xD (cT:Addr)(df:Addr)(spD:Sp)(vs:List V)(H:Hp)(Q:VK)(E:XK):Prop
 | mk (t:Addr)(b:List Str)(Fp:List Str->List (Str×List Str))(Ok:List Str->Prop)(h0_:vs=[.ref t,.ref df,.int 60])(h1_:H t=some (.tup (b.map V.str)))(h2_:Ok b)(h3_:∀ r,Ok r->∀ p∈Fp r,Ok p.2)(h4_:∀ r,Ok r->(Fp r).length<=64)
  (h5_:∀ (r:List Str) (t':Addr) H' Q',aM H H'->Ok r->H' t'=some (.tup (r.map V.str))->aLl H' (Fp r) Q'->spD [.ref t'] H' Q' E)
  (h6_:(gT (λr=>(Fp r).map (·.2)) 61 [b] 0).length<=60->∀ (d:Addr) (kvs:List (List Key×V)) H',aM H H'->H d=none->H' d=some (.dT kvs)->kvs.map (·.1)=(gT (λr=>(Fp r).map (·.2)) 61 [b] 0).map (λr=>r.map Sum.inr)->Q (.ref d) H')
  (h7_:60<(gT (λr=>(Fp r).map (·.2)) 61 [b] 0).length->∀ H',aM H H'->E (.ref cT) none H')
inductive xI (cT:Addr)(df:Addr)(spD:Sp)(vs:List V)(H:Hp)(Q:VK)(E:XK):Prop
 | mk (t:Addr)(b:List Str)(Fp:List Str->List (Str×List Str))(Ok:List Str->Prop)(h0_:vs=[.ref t,.ref df,.int 60])(h1_:H t=some (.tup (b.map V.str)))(h2_:Ok b)(h3_:∀ r,Ok r->∀ p∈Fp r,Ok p.2)(h4_:∀ r,Ok r->(Fp r).length<=64)
  (h5_:∀ (r:List Str) (t':Addr) H' Q',aM H H'->Ok r->H' t'=some (.tup (r.map V.str))->aLl H' (Fp r) Q'->spD [.ref t'] H' Q' E)
  (h6_:(gT (λr=>(Fp r).map (·.2)) 61 [b] 0).length<=60->∀ (l:Addr) (bs:List Addr) H',aM H H'->H l=none->H' l=some (.lst (bs.map V.ref))->lW H' bs (gT (λr=>(Fp r).map (·.2)) 61 [b] 0)->Q (.ref l) H')
  (h7_:60<(gT (λr=>(Fp r).map (·.2)) 61 [b] 0).length->∀ H',aM H H'->E (.ref cT) none H')
structure RT (H H':Hp)(d R:Addr)(rs:xLL)(n:Nat):Prop where
 ex:∃ (kvs:List (List Key×V)) (bs:List Addr),H' d=some (.dT kvs)/\kvs.map (·.1)=rs.map (λr=>r.map Sum.inr)/\H' R=some (.lst (bs.map V.ref))/\lW H' bs rs/\∀ kv∈kvs,∃ (l:Addr) (row:List Str),kv.2=.ref l/\H' l=some (.lst (row.map V.str))/\row.length<=n/\l≠R
 sm:aM H H'
 nd:H d=none
 nR:H R=none
theorem wI:∀ {ss ts:List Str},ss.map (Sum.inr:Str->Key)=ts.map Sum.inr->ss=ts
 | [],[],_=>rfl
 | [],_::_,h=>by cases h
 | _::_,[],h=>by cases h
 | a::ss,b::ts,h=>by
  have h':=List.cons.inj h;rw[Sum.inr.inj h'.1,wI h'.2]
theorem wH {kvs:List (List Key×V)}{rs:xLL}(h:kvs.map (·.1)=rs.map (λr=>r.map Sum.inr))(r:List Str):(dE kvs (r.map Sum.inr)).isSome=decide (r∈rs):=by
 rw[<- gG,xDr,xDj,xEw];constructor
 ·rintro⟨x,hx,e⟩
  have:x.1∈kvs.map (·.1):=xAo.mpr ⟨x,hx,rfl⟩
  rw[h,xAt e] at this;obtain⟨y,hy,ey⟩:=xAo.mp this;rw[<- wI ey];exact hy
 ·intro hr
  have:r.map Sum.inr∈kvs.map (·.1):=by rw[h]; exact xAo.mpr ⟨r,hr,rfl⟩
  obtain⟨x,hx,e⟩:=xAo.mp this;exact⟨x,hx,xAm e⟩
theorem aCz {kvs:List (List Key×V)}{k:List Key}{v:V}(h:(dE kvs k).isSome=false):eX kvs k v=kvs++[(k,v)]:=by
 unfold eX;rw[gG,h];rfl
theorem iO (r:List Str):(r.map Sum.inr).map kV=r.map V.str:=by rw[xDb]; rfl
theorem aMg {kvs:List (List Key×V)}{rs:xLL}{Pv:V->Prop}(h:kvs.map (·.1)=rs.map (λr=>r.map Sum.inr))(h5:∀ kv∈kvs,Pv kv.2){r:List Str}(hr:r∈rs):∃ v,dE kvs (r.map Sum.inr)=some v/\Pv v:=by
 have e:=wH h r;rw[xAm hr] at e;obtain⟨v,hv⟩:=xCr.mp e;refine⟨v,hv,?_⟩;unfold dE at hv;obtain⟨kv,hf,rfl⟩:=xFn.mp hv;exact h5 kv (xEy hf)
theorem lK:∀ {fs rs:xLL}{r:List Str},r∈rs->r∈iR rs fs
 | [],_,_,h=>h
 | x::fs,rs,r,h=>lK (fs:=fs) (by
  by_cases q:x∈rs
  ·rw[xAz q]; exact h
  ·rw[xAw q]; exact xDf _ h)
theorem qW:∀ {fs rs:xLL},rs.length<=(iR rs fs).length
 | [],_=>xAh _
 | x::fs,rs=>xAs (by
  by_cases q:x∈rs
  ·rw[xAz q]; exact xAh _
  ·rw[xAw q,xAn]; omega) (qW (fs:=fs))
theorem RT.same {H H' H2:Hp}{d R:Addr}{rs:xLL}{n:Nat}(h:RT H H' d R rs n)(s:aM H' H2):RT H H2 d R rs n:=by
 obtain⟨⟨kvs,bs,e1,e2,e3,e4,e5⟩,sm,nd,nR⟩:=h;exact⟨⟨kvs,bs,s _ _ e1,e2,s _ _ e3,e4.same λb xs e=>s _ _ e,λkv hk=>let ⟨l,row,k1,k2,k3,k4⟩:=e5 kv hk; ⟨l,row,k1,s _ _ k2,k3,k4⟩⟩,sm.trans s,nd,nR⟩
theorem RT.more {H H':Hp}{d R:Addr}{rs:xLL}{n m:Nat}(h:RT H H' d R rs n)(hm:n<=m):RT H H' d R rs m:=by
 obtain⟨⟨kvs,bs,e1,e2,e3,e4,e5⟩,sm,nd,nR⟩:=h;exact⟨⟨kvs,bs,e1,e2,e3,e4,λkv hk=>let ⟨l,row,k1,k2,k3,k4⟩:=e5 kv hk; ⟨l,row,k1,k2,xAs k3 hm,k4⟩⟩,sm,nd,nR⟩
abbrev NRT:List Str:=["begin","doors","most","rows","rooms","place","room","deed","far"]
theorem xK:aO NRT ["begin","doors","most"] (aA vN):=xfs
theorem aEv {f cT:Addr}{fd:FuncData}{kd:Nat}(F:Fun K "rows_to" "rows_to" vN f fd)(T:Txt K mg)(mTM:mg "TooMany" = some (.ref cT))(xTM:nF K cT) :
  tK P w K mg base (kd+1) f fd ["begin","doors","most"] (SpH P w K mg base kd (xD cT)):=by
 refine okS F xK (λo s vs H Q E h=>?_) (λcdv A outer s H vs Q E hr h D=>?_)
 ·obtain⟨df,spD,_,t,b,Fp,Ok,rfl,_⟩:=h;rfl
 ·obtain⟨df,spD,hd,t,b,Fp,Ok,rfl,hT,hok,h3,h4,h5,q6,q7⟩:=h;have hu:=jG hr
  refine⟨_,aJ (bO (i:=3) xK.nd rfl (xBg rfl) (aIg (xGu hu) (pv 0) (aV aE)))
   (aJ (bO (i:=4) xK.nd rfl (xBg rfl) (aV (pac (pv 0) aE)))
   (aJ (bO (i:=5) xK.nd rfl (xBg rfl) aN)
   (aJ (aIb PassesOwn.leaving (aX aDd (pv 5) (bV cE (by rfl) T.len Bo.len (pac (pv 4) aE)) (bJ _))
    (aJ (bO (i:=6) xK.nd rfl (xBg rfl) (cQ dD (pv 4) (pv 5) (λ_ _=>rfl)))
    (aJ (eV PassesOwn.leaving rfl (dC (aEl (i:=1) (sp:=spD) (E:=E) rfl (by rfl) (D.passes λ_ _ _ z=>z) hr (λ_ _ _ _ I=>hd.later (aPe I)) (pv 6))) (iK rfl (cB (aW (i:=7) xK.nd rfl (xBg rfl)) (cB (aW (i:=8) xK.nd rfl (xBg rfl)) gH)))
     (aK (cM (oY (oZ hu (pv 8) (pv 3)))
      (aJ (jS hu (pv 3) (pv 8) (bX aIo (iW hu (pv 3) (pv 6) (λ_ _=>rfl)) (aV (pac (pv 7) aE))) rfl)
      (aK (cX (kU xBq xDh xDg iF (pv 4) (pac (pv 8) aE))))) aZ)))
    (aJ (cM (aX pV (bV cE (by rfl) T.len Bo.len (pac (pv 4) aE)) (pv 2) (bJ _)) (aK (eG D rfl (by rfl) mTM xTM (pac (xT aL (vY (pv 2)) aL) aE))) aZ)
    (aK (bO (i:=5) xK.nd rfl (xBg rfl) (bX iN (pv 5) aN)))))))
   (aK (aQ (pv 3)))))),?_⟩
  intro d hd0;refine⟨_,rfl,by show 0<=sizeLine; decide,λl0 hl0=>?_⟩;have dl0:d≠l0:=λz=>by rw[<- z,aD] at hl0; cases hl0
  have k1:aM H (upd (upd H d (.dT [])) l0 (.lst [])):=(smu hd0).trans (smu hl0);have nl0:H l0=none:=(smu hd0).free hl0;have ed:(upd (upd H d (.dT [])) l0 (.lst [])) d=some (.dT []):=by rw[aH dl0,aD]
  have el:(upd (upd H d (.dT [])) l0 (.lst [])) l0=some (.lst []):=aD;generalize upd (upd H d (.dT [])) l0 (.lst [])=H1 at k1 ed el ⊢;refine⟨ed,t,b.map Sum.inr,rfl,by rw[iO]; exact k1 _ _ hT,?_⟩;have k2:aM H (upd H1 d (.dT [(b.map Sum.inr,.ref l0)])):=λc o e=>by rw[aH (aI e hd0)]; exact k1 _ _ e
  have ed2:(upd H1 d (.dT [(b.map Sum.inr,.ref l0)])) d=some (.dT [(b.map Sum.inr,.ref l0)]):=aD;have el2:(upd H1 d (.dT [(b.map Sum.inr,.ref l0)])) l0=some (.lst []):=by rw[aH (Ne.symm dl0)]; exact el
  generalize upd H1 d (.dT [(b.map Sum.inr,.ref l0)])=H2 at k2 ed2 el2 ⊢;refine⟨_,rfl,by show 1<=sizeLine; decide,λR hR=>?_⟩;have k3:aM H2 (upd H2 R (.lst [.ref t])):=smu hR;have eR:(upd H2 R (.lst [.ref t])) R=some (.lst ([t].map V.ref)):=aD;have nR:H R=none:=k2.free hR;have lR:l0≠R:=λz=>by rw[z,hR] at el2; cases el2
  generalize upd H2 R (.lst [.ref t])=H3 at k3 eR ⊢;have rt0:RT H H3 d R [b] 0:=⟨⟨_,[t],k3 _ _ ed2,rfl,eR,.cons ((k2.trans k3) _ _ hT) .nil,λkv hk=>⟨l0,[],by rw[xAg.mp hk],k3 _ _ el2,xAh _,lR⟩⟩,k2.trans k3,hd0,nR⟩;clear k1 ed el k2 ed2 el2 k3 eR hR hl0 nl0;generalize hF:(λr=>(Fp r).map (·.2))=Fr at *;have hFr:∀ r,Fr r=(Fp r).map (·.2):=λr=>by rw[<- hF]
  clear hF
  refine⟨λm σ H'=>∃ (i:Nat) (rs:xLL) (x6 x7 x8:Option V),m=61-i/\σ=[some (.ref t),some (.ref df),some (.int 60),some (.ref d),some (.ref R),some (.int i),x6,x7,x8]/\RT H H' d R rs (64*i)/\i<=rs.length/\rs.length<=60/\(∀ r∈rs,Ok r)/\gT Fr 61 [b] 0=gT Fr (61-i) rs i,
   ⟨61,0,[b],none,none,none,rfl,rfl,rt0,xBu _,(by show 1<=60; decide),λr hr=>by rw[xAg.mp hr]; exact hok,rfl⟩,?_⟩
  rintro m σ H' ⟨i,rs,x6,x7,x8,rfl,rfl,rt,hi,h60,hOk,hc⟩;obtain⟨⟨kvs,bs,e1,e2,e3,e4,e5⟩,sm,nd,_⟩:=id rt;have lbs:bs.length=rs.length:=Paired.length e4;refine⟨_,rfl,_,rfl,R,_,rfl,.inl (SqL.of e3),_,_,rfl,rfl,_,rfl,gK (λhlt=>?_) (λhge=>?_)⟩
  rotate_left
  ·have hin:¬ i<rs.length:=λz=>hge (xAm (by rw[xAa]; omega));rw[uW (λz=>hin z.1)] at hc;rw[hc] at q6;exact⟨_,rfl,q6 h60 d kvs H' sm nd e1 e2⟩
  ·have hil:i<rs.length:=by have:=xAt hlt; rw[xAa] at this; omega
   have hb:=xAi (l:=bs) (i:=i) (by omega);generalize bs[i]'(by omega)=tr at hb;obtain⟨r,hrs,htr⟩:=e4.get hb;have hrm:r∈rs:=xBe hrs;have okr:=hOk r hrm;have hc':=hc.trans (aNv hrs h60);rw[hFr] at hc';have h4r:=h4 r okr;refine⟨_,λ_ _ h=>h,?_⟩;refine⟨_,rfl,_,rfl,R,_,_,.ref tr,rfl,rfl,SqL.of e3,oM (by rw[xAj,hb]; rfl),?_⟩;refine⟨rfl,_,rfl,h5 r tr H' _ sm okr htr λl H2 s2 n2 W=>?_⟩;obtain⟨ts,w0,w1,w2⟩:=W.ex;have ld:l≠d:=λz=>by rw[z,e1] at n2; cases n2
   have lR:l≠R:=λz=>by rw[z,e3] at n2; cases n2
   have d2:=s2 _ _ e1;have R2:=s2 _ _ e3;have t2:=s2 _ _ htr;refine⟨l,rfl,⟨_,SqL.of w0⟩,?_⟩;refine dY (xs:=ts.map V.ref) (λj σ H3=>∃ x7 x8:Option V,σ=[some (.ref t),some (.ref df),some (.int 60),some (.ref d),some (.ref R),some (.int i),some (.ref tr),x7,x8]/\RT H H3 d R (iR rs (((Fp r).take j).map (·.2))) (64*i+j)/\∀ b o,H2 b=some o->b≠d->b≠R->H3 b=some o) ?_ ?_ ?_ ?_
   ·exact⟨_,_,rfl,rt.same s2,λb o e _ _=>e⟩
   ·rintro j σ H3 _ ⟨x7,x8,rfl,rt3,a2⟩;exact SqL.of (a2 _ _ w0 ld lR)
   ·rintro j v σ H3 hv ⟨x7,x8,rfl,rt3,a2⟩;rw[xAj] at hv;cases hy:ts[j]? with
    | none=>rw[hy] at hv; cases hv
    | some y=>
     rw[hy] at hv;cases hv;have hj:j<(Fp r).length:=by rw[<- w1]; exact (xAd.mp hy).1
     have hz:=xAi hj;generalize (Fp r)[j]=z at hz;obtain⟨u,w3,w4⟩:=w2 j y z hy hz;have w3':=a2 _ _ w3 (eZ w3 d2 (λz=>nomatch z)) (eZ w3 R2 (λz=>nomatch z));have w4':=a2 _ _ w4 (eZ w4 d2 (λz=>nomatch z)) (eZ w4 R2 (λz=>nomatch z));have t3:=a2 _ _ t2 (eZ t2 d2 (λz=>nomatch z)) (eZ t2 R2 (λz=>nomatch z));have etk:((Fp r).take (j+1)).map (·.2)=((Fp r).take j).map (·.2)++[z.2]:=by rw[xBo,hz,xAx]; rfl
     have hr3:r∈iR rs (((Fp r).take j).map (·.2)):=lK hrm;have rlen:(iR rs (((Fp r).take j).map (·.2))).length<=200:=by have:=zA (rs:=rs) (fs:=((Fp r).take j).map (·.2)); rw[xAa,xBb] at this; omega
     rw[etk,vC];generalize iR rs (((Fp r).take j).map (·.2))=rs3 at rt3 hr3 rlen;obtain⟨⟨kvs3,bs3,f1,f2,f3,f4,f5⟩,sm3,_,nR3⟩:=id rt3;have kl:kvs3.length=rs3.length:=by have:=congrArg List.length f2; rw[xAa,xAa] at this; exact this
     have bl:bs3.length=rs3.length:=Paired.length f4;refine⟨y,_,rfl,SqT.of w3',rfl,_,_,rfl,_,_,rfl,rfl,?_⟩;refine⟨_,rfl,_,rfl,d,_,rfl,fP.t (k:=z.2.map Sum.inr) f1 (by rw[iO]; exact w4'),_,rfl,?_⟩;rw[wH f2]
     by_cases hm:z.2∈rs3
     ·rw[xAm hm];refine gF ⟨_,_,rfl,?_,a2⟩;rw[xAz hm];exact rt3.more (by omega)
     ·rw[xBc hm,xAw hm];obtain⟨v,hv,lr,row,rfl,hrow,hle,hne⟩:=aMg (Pv:=λv=>∃ (l:Addr) (row:List Str),v=.ref l/\H3 l=some (.lst (row.map V.str))/\row.length<=64*i+j/\l≠R) f2 f5 hr3;have g1:=fP.t (k:=r.map Sum.inr) f1 (b:=tr) (by rw[iO]; exact t3);rw[hv] at g1;refine iD ⟨_,rfl,_,rfl,d,_,rfl,g1,_,rfl,by show 1<=sizeLine; decide,λl1 hl1=>⟨lr,l1,_,_,rfl,rfl,smu hl1 _ _ hrow,aD,jN (by rw[xAa]; simp only[List.length_cons,List.length_nil]; omega),λl2 hl2=>?_⟩⟩;have s5:aM H3 (upd (upd H3 l1 (.lst [.str z.1])) l2 (.lst (row.map V.str++[.str z.1]))):=(smu hl1).trans (smu hl2);have e5l:(upd (upd H3 l1 (.lst [.str z.1])) l2 (.lst (row.map V.str++[.str z.1]))) l2=some (.lst ((row++[z.1]).map V.str)):=by rw[aD,xAx]; rfl
      have nl2:H3 l2=none:=(smu hl1).free hl2;generalize upd (upd H3 l1 (.lst [.str z.1])) l2 (.lst (row.map V.str++[.str z.1]))=H5 at s5 e5l ⊢;have l2d:l2≠d:=λz=>by rw[z,f1] at nl2; cases nl2
      have l2R:l2≠R:=λz=>by rw[z,f3] at nl2; cases nl2
      have Rd:R≠d:=eZ f3 f1 (λz=>nomatch z);refine⟨_,rfl,_,rfl,d,_,rfl,pS.t (k:=z.2.map Sum.inr) (s5 _ _ f1) (by rw[iO]; exact s5 _ _ w4') (bS (by omega)),?_⟩;rw[aCz (by rw[wH f2,xBc hm])];have h6R:(upd H5 d (.dT (kvs3++[(z.2.map Sum.inr,.ref l2)]))) R=some (.lst (bs3.map V.ref)):=by rw[aH Rd]; exact s5 _ _ f3
      refine⟨_,rfl,.inl ⟨rfl,_,SqL.of h6R⟩,_,rfl,R,_,_,rfl,rfl,h6R,bS (by rw[xAa]; omega),?_⟩;have k7:∀ b o,H5 b=some o->b≠d->b≠R->(upd (upd H5 d (.dT (kvs3++[(z.2.map Sum.inr,.ref l2)]))) R (.lst (bs3.map V.ref++[.ref u]))) b=some o:=λb o e n1 n2=>by rw[aH n2,aH n1]; exact e
      have d7:(upd (upd H5 d (.dT (kvs3++[(z.2.map Sum.inr,.ref l2)]))) R (.lst (bs3.map V.ref++[.ref u]))) d=some (.dT (kvs3++[(z.2.map Sum.inr,.ref l2)])):=by rw[aH (Ne.symm Rd),aD]
      have R7:(upd (upd H5 d (.dT (kvs3++[(z.2.map Sum.inr,.ref l2)]))) R (.lst (bs3.map V.ref++[.ref u]))) R=some (.lst ((bs3++[u]).map V.ref)):=by rw[aD,xAx]; rfl
      generalize upd (upd H5 d (.dT (kvs3++[(z.2.map Sum.inr,.ref l2)]))) R (.lst (bs3.map V.ref++[.ref u]))=H7 at k7 d7 R7 ⊢;have tk:∀ b xs,H3 b=some (.tup xs)->H7 b=some (.tup xs):=λb xs e=>k7 _ _ (s5 _ _ e) (eZ e f1 (λz=>nomatch z)) (eZ e f3 (λz=>nomatch z));refine⟨_,_,rfl,⟨⟨_,bs3++[u],d7,by rw[xAx,xAx,f2]; rfl,R7,lW.snoc (f4.same tk) (tk _ _ w4'),λkv hk=>?_⟩,λb o e=>k7 _ _ (s5 _ _ (sm3 _ _ e)) (aI e nd) (aI e nR3),nd,nR3⟩,λb o e n1 n2=>k7 _ _ (s5 _ _ (a2 _ _ e n1 n2)) n1 n2⟩;rcases xBy.mp hk with hk | hk
      ·obtain⟨l',row',q1,q2,q3,q4⟩:=f5 kv hk;exact⟨l',row',q1,k7 _ _ (s5 _ _ q2) (eZ q2 f1 (λz=>nomatch z)) q4,by omega,q4⟩
      ·rw[xAg.mp hk];exact⟨l2,row++[z.1],rfl,k7 _ _ e5l l2d l2R,by rw[xAn,xFv]; omega,l2R⟩
   ·rintro σ H3 ⟨x7,x8,rfl,rt3,a2⟩;rw[xAa,w1,xBa] at rt3;generalize hrs3:iR rs ((Fp r).map (·.2))=rs3 at rt3 hc';have rt4:RT H H3 d R rs3 (64*(i+1)):=rt3.more (by omega);obtain⟨⟨kvs3,bs3,f1,f2,f3,f4,f5⟩,sm3,_,nR3⟩:=id rt3;have bl:bs3.length=rs3.length:=Paired.length f4;refine⟨_,rfl,R,_,rfl,.inl (SqL.of f3),_,rfl,_,_,rfl,rfl,_,rfl,gK (λhgt=>?_) (λhle=>?_)⟩
    ·have hgt':60<rs3.length:=by have:=xAt hgt; rw[xAa] at this; omega
     have hc2:gT Fr 61 [b] 0=rs3:=by rw[hc']; exact uW (λz=>xAu z.2 (by omega))
     rw[hc2] at q7;exact⟨_,rfl,by decide +kernel,_,rfl,60,rfl,by decide +kernel,_,rfl,by decide +kernel,_,rfl,by decide +kernel,by decide +kernel,by show 1<=sizeLine; decide,q7 hgt' H3 sm3⟩
    ·have hle':rs3.length<=60:=Nat.le_of_not_lt λz=>hle (xAm (by rw[xAa]; omega));refine⟨_,rfl,_,_,rfl,rfl,?_⟩;refine⟨61-(i+1),by omega,i+1,rs3,_,_,_,rfl,rfl,rt4,?_,hle',λr' hr'=>?_,hc'⟩
     ·have:rs.length<=rs3.length:=by rw[<- hrs3]; exact qW
      omega
     ·rw[<- hrs3] at hr';rcases tH hr' with h | h
      ·exact hOk r' h
      ·obtain⟨p,hp,rfl⟩:=xAo.mp h;exact h3 r okr p hp
theorem xW {ms:List MW}{room:List Str}{y:Str}{i:Nat}{m:MW}{z:Str}(hm:ms[i]?=some m)(hz:room[i]?=some z):(parts ms room y)[i]?=some (gZ m.ds m.kn z y):=by
 unfold parts;rw[List.getElem?_zipWith,hm,hz]
theorem rA {ms:List MW}{room:List Str}{y:Str}{fs:List Str}(hk:y∈wkn ms)(h:parts ms room y=fs.map some):wto ms room y=some fs:=by
 unfold wto aGl;rw[xAz hk,h,xAw (by simp),xDb];exact congrArg some (List.map_id fs)
def off (H:Hp)(P:Addr):Hp:=λb=>if b=P then none else H b
theorem cS {H:Hp}{P b:Addr}{o:HO}(e:off H P b=some o):b≠P/\H b=some o:=by
 unfold off at e
 by_cases q:b=P
 ·rw[xAz q] at e; cases e
 ·rw[xAw q] at e; exact⟨q,e⟩
theorem gS {H:Hp}{P b:Addr}{o:HO}(n:b≠P)(e:H b=some o):off H P b=some o:=by
 unfold off;rw[xAw n];exact e
theorem sI {H H':Hp}{P:Addr}(s:aM H H'):aM (off H P) (off H' P):=λ_ _ e=>let ⟨n,e'⟩:=cS e; gS n (s _ _ e')
theorem aJt {H:Hp}{P:Addr}:aM (off H P) H:=λ_ _ z=>(cS z).2
def Pl:HO->Prop
 | .tbl _=>False
 | .dT _=>False
 | _=>True
def NTb (H H':Hp):Prop:=∀ b o,H b=some o->Pl o->H' b=some o
section
variable {K:xAb}{H H':Hp}
theorem ntW {C p:Addr}{kvs:List (Key×V)}(s:NTb H H')(h:WAt C H p kvs):WAt C H' p kvs:=by
 obtain⟨dx,fs,dw,o,h0,h1,h2,h3⟩:=h;exact⟨dx,fs,dw,o,s _ _ h0 trivial,h1,h2,s _ _ h3 trivial⟩
theorem ntM {CM x dd:Addr}{b:Str}{es kn:List Str}{ds:List Dr}(s:NTb H H')(h:MM CM H x dd b es kn ds):MM CM H' x dd b es kn ds:=by
 obtain⟨dx,l,e,k,kvs,g,M⟩:=h;exact⟨dx,l,e,k,kvs,g,⟨s _ _ M.ins trivial,⟨s _ _ M.lead.dk trivial,M.lead.keys,M.lead.val,λz hz=>s _ _ (M.lead.dd z hz) trivial,M.lead.inj,M.lead.ne⟩,s _ _ M.ends trivial,s _ _ M.know trivial⟩⟩
theorem aWg {CM x p:Addr}{ms:List MW}(s:NTb H H')(h:lX CM H x p ms):lX CM H' x p ms:=by
 obtain⟨Xs,a0,a1,a2⟩:=h.ex;exact⟨Xs,s _ _ a0 trivial,a1,λi X m a b=>ntM s (a2 i X m a b)⟩
theorem ntV {CM CW v x:Addr}{ms:List MW}(s:NTb H H')(W:Wv CM CW H v x ms):Wv CM CW H' v x ms:=by
 obtain⟨dv,lm,lk,kn,h1,h2,h3,h4⟩:=W;exact⟨dv,lm,lk,kn,s _ _ h1 trivial,aWg s h2,s _ _ h3 trivial,h4⟩
end
def Tab (pos:Pos)(q:Str)(P:Addr)(H:Hp):Prop:=H P=some (.tbl #[])\/∃ c',H P=some (.tbl #[rawInt pos.line,rawInt pos.col,.ref c'])/\H c'=some (.ext (gB c' q))
section
variable {pos:Pos}{q:Str}{P:Addr}{H H':Hp}
theorem Tab.same (T:Tab pos q P H)(s:aM H H'):Tab pos q P H':=T.elim (λh=>.inl (s _ _ h)) λ⟨c',h1,h2⟩=>.inr ⟨c',s _ _ h1,s _ _ h2⟩
theorem Tab.tb (T:Tab pos q P H):∃ ps,H P=some (.tbl ps):=T.elim (λh=>⟨_,h⟩) λ⟨_,h,_⟩=>⟨_,h⟩
theorem aOw {d:Addr}{u:HO}(h:H d=some u)(hu:¬ Pl u){b:Addr}{o:HO}(e:H b=some o)(n:Pl o):b≠d:=λz=>by
 rw[z,h] at e;cases e;exact hu n
theorem eU (t:∃ ps,H P=some (.tbl ps))(s:aM (off H P) H'):NTb H H':=λb o e n=>s _ _ (gS (let ⟨_,h⟩:=t; aOw h (λz=>z) e n) e)
theorem aJu (T:Tab pos q P H')(s:aM (off H P) H'){l:Addr}(h:H' l=none):H l=none:=by
 cases e:H l with
 | none=>rfl
 | some o=>
  by_cases n:l=P
  ·obtain⟨ps,t⟩:=T.tb;rw[n,t] at h; cases h
  ·rw[s _ _ (gS n e)] at h; cases h
theorem Tab.made {c':Addr}{H1:Hp}(hc:H c'=none)(hn:c'≠P)(e:H1=upd (upd H P (.tbl (#[]++#[rawInt pos.line,rawInt pos.col,.ref c']))) c' (.ext (gB c' q))):aM (K34.off H P) H1/\Tab pos q P H1/\H1 c'=some (.ext (gB c' q)):=by
 refine⟨λb o z=>?_,.inr ⟨c',?_,?_⟩,?_⟩
 ·obtain⟨z1,z2⟩:=cS z;rw[e,aH (aI z2 hc),aH z1];exact z2
 ·rw[e,aH (Ne.symm hn),aD]
  first | done | rfl
 ·rw[e,aD]
 ·rw[e,aD]
theorem Tab.hand {R:Addr->Hp->Prop}(T:Tab pos q P H)(h:∀ c' H1,aM (K34.off H P) H1->Tab pos q P H1->H1 c'=some (.ext (gB c' q))->R c' H1)(hca:∀ c',codeAmong pos [rawInt pos.line,rawInt pos.col,.ref c']=some (.ref c'):=by intro; rfl):aLq P pos q R H:=by
 rcases id T with hP | ⟨c',hP,hc⟩
 ·exact .made #[] hP trivial rfl λc' H1 hc hn e=>let ⟨a,b,c⟩:=Tab.made hc hn e; h c' H1 a b c
 ·exact .hit _ c' hP ⟨⟩ (hca c') hc (h c' H aJt T hc)
end
theorem ROk.far {ms:List MW}{room r':List Str}{z:Str}(hN:∀ m∈ms,m.rs.all aU=true)(R:ROk ms room)(h:wto ms room z=some r'):ROk ms r':=by
 unfold wto at h
 by_cases q:z∈wkn ms
 ·rw[xAz q] at h;unfold aGl at h
  by_cases a:(parts ms room z).any (λo=>o.isNone)=true
  ·rw[xAz a] at h; cases h
  ·rw[xAw a] at h;cases h;refine⟨by rw[xAa]; unfold parts; rw[xGk,<- R.len,Nat.min_self],λi m u hm hu=>?_⟩;have hi:i<ms.length:=(xAd.mp hm).1;have hz0:=xAi (l:=room) (i:=i) (by rw[<- R.len]; exact hi);generalize room[i]'(by rw[<- R.len]; exact hi)=z0 at hz0;rw[xAj,xW hm hz0] at hu;cases g:gZ m.ds m.kn z0 z with
   | none=>exact xAu (xDj.mpr ⟨none,xBe (by rw[xW hm hz0,g]),rfl⟩) a
   | some u'=>
    rw[g] at hu;cases hu;have hmem:u'∈m.rs:=yP (R.mem i m z0 hm hz0).2 g;exact⟨xBn.mp (hN m (xBe hm)) _ hmem,hmem⟩
 ·rw[xAw q] at h; cases h
theorem ROk.begin {ms:List MW}(hN:∀ m∈ms,m.rs.all aU=true):ROk ms (ms.map (·.b)):=by
 refine⟨by rw[xAa],λi m z hm hz=>?_⟩;rw[xAj,hm] at hz;cases hz
 have:m.b∈m.rs:=xDf _ (xBm ..)
 exact⟨xBn.mp (hN m (xBe hm)) _ this,this⟩
abbrev dI:Pos:=⟨230,37,230,65⟩
abbrev dH:Str:="Woven.rooms.<locals>."++"<lambda>"
abbrev cH (ms:List MW)(S:List Str):List (List Str):=gT (λr=>S.filterMap (wto ms r)) 61 [ms.map (·.b)] 0
inductive xB (C CM CW cT Pr:Addr)(vs:List V)(H:Hp)(Q:VK)(E:XK):Prop
 | mk (v x:Addr)(ms:List MW)(S:List Str)(wk:List (Key×V))(h0_:vs=[.ref v])(h1_:Wv CM CW H v x ms)(h2_:1<=ms.length/\ms.length<=100)(h3_:∀ m∈ms,m.rs.all aU=true)(h4_:WAt C H x wk)(h5_:∀ z∈wkn ms,z∈S)(h6_:S.length<64)(h7_:∀ z∈S,cZ wk (.str z)=true)
  (h8_:xBt S=true)(h9_:S.Nodup)(h10_:Tab dI dH Pr H)
  (h11_:(cH ms S).length<=60->∀ (l:Addr) (bs:List Addr) H',aM (off H Pr) H'->H l=none->Tab dI dH Pr H'->H' l=some (.lst (bs.map V.ref))->lW H' bs (cH ms S)->Q (.ref l) H')
  (h12_:60<(cH ms S).length->∀ H',aM (off H Pr) H'->Tab dI dH Pr H'->E (.ref cT) none H')
abbrev NCT:List Str:=["begin","doors","most"]
theorem aVu:aO NCT NCT (aA vR):=xfs
theorem aFe {f fR cT:Addr}{fd fdR:FuncData}{kd:Nat}(F:Fun K "come_to" "come_to" vR f fd)(T:Txt K mg)
  (GR:tK P w K mg base (kd+1) fR fdR NCT (SpH P w K mg base kd (xD cT)))(kR:keepIn K (.ref fR)=true)(bR:aS K fdR NCT [])(mR:mg "rows_to"=some (.ref fR)) :
  tK P w K mg base (kd+2) f fd NCT (SpH P w K mg base kd (xI cT)):=by
 refine okS F aVu (λo s vs H Q E h=>?_) (λcdv A outer s H vs Q E hr h D=>?_)
 ·obtain⟨df,spD,_,t,b,Fp,Ok,rfl,_⟩:=h;rfl
 ·obtain⟨df,spD,hd,t,b,Fp,Ok,rfl,hT,hok,h3,h4,h5,q6,q7⟩:=h
  exact⟨_,aK (aQ (jF (aBr rfl) (by rfl) T.list Bo.list (pac (aIk (spD:=spD) (E:=E) GR hr rfl mR kR bR (D.passes λ_ _ _ z=>z) (λ_ _ _ _ I=>hd.later (aPe I)) (pac (pv 0) (pac (pv 1) (pac (pv 2) aE)))) aE))),
   _,rfl,_,rfl,_,rfl,t,b,Fp,Ok,rfl,hT,hok,h3,h4,h5,λhc d kvs H' s n e ek=>⟨d,kvs,_,rfl,e,ek,λp bs hp tp=>q6 hc p bs _ (s.trans (smu hp)) (s.free hp) aD (tp.same λb xs e=>smu hp _ _ e)⟩,q7⟩
theorem aUu:aO ["self"] ["self"] (aA gP):=xfs
theorem aEo {f fB fWy fCT C CM CW cT c2 Pr:Addr}{fdB fdWy fdCT:FuncData}{oc kV doc pm ct:Value}{an od:Option Addr}{osl:xAO}
  (lk:K.lookup f=some ⟨oc,od,.func (fnOf "rooms" "Woven.rooms" (aG gP) (aF gP) (aA gP) .none kV doc pm an (.ref c2) ct),osl⟩)(hcd:codeIn K (.ref c2) "Woven.rooms" = true)(hhd:codeHdIn K c2 Pr=true)(bm:oP mg base)
  (WC:tJ K CW)(mMR:∃ t,mg "MOST_ROOMS"=some (.int 60 t))
  (GB:aP P w K mg base CX0 3 fB fdB ["self"] (rG CM CW))(bB:aS K fdB ["self"] [])(mB:eI K CW "begin" fB)
  (GWy:aP P w K mg base CX0 6 fWy fdWy ["self","room"] (qL K C CM CW))(bWy:aS K fdWy ["self","room"] [])(mWy:eI K CW "ways" fWy)
  (GCT:tK P w K mg base 9 fCT fdCT NCT (SpH P w K mg base 7 (xI cT)))(kCT:keepIn K (.ref fCT)=true)(bCT:aS K fdCT NCT [])(mCT:mg "come_to"=some (.ref fCT)) :
  aP P w K mg base (CXE P w) 10 f (fnOf "rooms" "Woven.rooms" (aG gP) (aF gP) (aA gP) .none kV doc pm an (.ref c2) ct) ["self"] (xB C CM CW cT Pr):=by
 obtain⟨tm,mMR⟩:=mMR;refine aDn lk hcd aUu (λvs H Q E h=>?_) (λA outer s H vs Q E hr h=>?_)
 ·obtain⟨v,x,ms,S,wk,rfl,_⟩:=h;rfl
 ·obtain⟨v,x,ms,S,wk,rfl,W,hl,hN,hW,hkS,h64,hg,so,nd,TB,q1,q2⟩:=h;have D:(jJ (CXE P w) P w K mg base ["self"] "Woven.rooms" (aA gP) f (.ref c2) A outer s H E).Body E:=qV;have hr3:bY 3 _:=hr.mono (by decide)
  refine⟨_,aK (aQ (aMq (kd:=6) (P:=Pr) (v3:=.int 60) (NL:=["self"]) (js:=[0]) (te:=λEw=>aGt CW "ways" (qL K C CM CW) [] Ew (qE 1) (iT (qE 0) qF)) GCT hr rfl mCT kCT bCT (D.passes λ_ _ _ z=>z) (λ_=>rfl) rfl hhd bm
   ⟨rfl,rfl,rfl,by decide +kernel,rfl,by decide +kernel⟩ (dF (aA gP) ["self"] rfl rfl (by decide +kernel)) rfl (λ_ _ _ _ _=>rfl)
   (λEw A outer f c' cl s' H' hr=>dQ (E:=Ew) (pv 1) WC.cl mWy GWy hr bWy .nil aY (pac (pv 0) aE)) (dP (pv 0) WC.cl mB GB hr3 bB .nil aY) (by rfl) mMR ⟨_,rfl⟩)),?_⟩
  obtain⟨dv,lm,lk',kn,hi,M,hk,hkn⟩:=id W;refine⟨_,rfl,v,dv,_,rfl,hi,dL _ _ _ (by decide),v,x,ms,rfl,W,hl.2,λl H1 s1 n1 e1=>?_⟩;have T1:=TB.same s1;refine T1.hand λc' H2 s2 T2 hc f'=>?_;have nt:=eU T1.tb s2;have sO:aM (off H Pr) H2:=(sI s1).trans s2;have eF:(λr=>(cY ms (jC ms S r) r).map (·.2))=λr=>S.filterMap (wto ms r):=funext λr=>aDo S;have W2:=ntV nt (W.same s1);have hW2:=ntW nt (dS hW s1);refine⟨l,ms.map (·.b),λr=>cY ms (jC ms S r) r,ROk ms,rfl,nt _ _ e1 trivial,ROk.begin hN,λr hr p hp=>?_,λr _=>?_,λr t' H' Q' s' ok ht hw=>⟨_,rfl,s' _ _ hc,?_⟩,?_,?_⟩
  ·obtain⟨z,hz,rfl⟩:=xAo.mp hp;have hs:=(xCd.mp hz).2;obtain⟨r',er⟩:=xCr.mp hs;show ROk ms ((wto ms r z).getD []);rw[er];exact hr.far hN er
  ·unfold cY jC;rw[xAa];exact xAs (xDc ..) (xEg h64)
  ·have W3:=W2.same s';obtain⟨dv3,lm3,lk3,kn3,hi3,_⟩:=id W3;exact⟨_,rfl,v,dv3,_,rfl,hi3,dL _ _ _ (by decide),_,rfl,v,x,t',ms,r,S,wk,rfl,W3,ht,ok,hl,dS hW2 s',hkS,h64,hg,so,nd,hw⟩
  ·rw[eF];exact λhle l2 bs H' s' n' e' tp=>q1 hle l2 bs H' (sO.trans s') (aJu T2 sO n') (T2.same s') e' tp
  ·rw[eF];exact λhgt H' s'=>q2 hgt H' (sO.trans s') (T2.same s')
def rN (k:Nat):Str:=(Str.empty++("r" : Str))++Str.ofString (toString (k:Int))
theorem aCy:∀ k:Nat,k<64->aU (rN k)=true/\(rN k).length<=100:=by decide +kernel
theorem aAi:∀ i:Nat,i<64->∀ j:Nat,j<64->rN i=rN j->i=j:=by decide +kernel
theorem qX:∀ {fs rs:xLL}{i:Nat},i<rs.length->(iR rs fs)[i]?=rs[i]?
 | [],_,_,_=>rfl
 | x::fs,rs,i,h=>by
  by_cases q:x∈rs
  ·show (iR (if x∈rs then rs else rs++[x]) fs)[i]?=_
   rw[xAz q];exact qX h
  ·show (iR (if x∈rs then rs else rs++[x]) fs)[i]?=_
   rw[xAw q,qX (by rw[xAn]; omega),xBw h]
theorem uR:∀ k:Nat,k<64->((k:Int)).natAbs.log2<1920:=by decide +kernel
theorem aNb {α:Type}(a:α):[a].Nodup:=xCi.mpr ⟨(λh=>(nomatch h)),xFg⟩
theorem tG:∀ {fs rs:xLL},rs.Nodup->(iR rs fs).Nodup
 | [],_,h=>h
 | x::fs,rs,h=>tG (fs:=fs) (by
  by_cases q:x∈rs
  ·rw[xAz q]; exact h
  ·rw[xAw q];exact xFd.mpr ⟨h,aNb _,λa ha b hb=>by rw[xAg.mp hb]; exact λe=>q (e▸ha)⟩)
theorem aDx:∀ {fs rs:xLL}{r:List Str},r∈fs->r∈iR rs fs
 | x::fs,rs,r,h=>by
  rcases xAk.mp h with rfl | h
  ·show r∈iR (if r∈rs then rs else rs++[r]) fs
   refine lK ?_
   by_cases q:r∈rs
   ·rw[xAz q]; exact q
   ·rw[xAw q]; exact xBp _ (xAg.mpr rfl)
  ·exact aDx (fs:=fs) (rs:=if x∈rs then rs else rs++[x]) h
theorem sY {F:List Str->List (List Str)}:∀ {n i:Nat}{rs:xLL},rs.Nodup->(gT F n rs i).Nodup
 | 0,_,_,h=>h
 | n+1,i,rs,h=>by
  unfold gT;split
  ·exact sY (tG h)
  ·exact h
theorem yV {F:List Str->List (List Str)}:∀ {n i:Nat}{rs:xLL}{r:List Str},r∈rs->r∈gT F n rs i
 | 0,_,_,_,h=>h
 | n+1,i,rs,r,h=>by
  unfold gT;split
  ·exact yV (lK h)
  ·exact h
theorem qD {F:List Str->List (List Str)}:∀ {n i:Nat}{rs:xLL},61<=n+i->i<=rs.length->(∀ j r,j<i->rs[j]?=some r->∀ r'∈F r,r'∈rs)->(gT F n rs i).length<=60->∀ r∈gT F n rs i,∀ r'∈F r,r'∈gT F n rs i
 | 0,i,rs,hn,hi,_,hl=>by
  have:rs.length<=60:=hl
  omega
 | n+1,i,rs,hn,hi,hc,hl=>by
  unfold gT at hl ⊢
  by_cases q:i<rs.length/\rs.length<=60
  ·rw[xAz q] at hl ⊢;have hrs:=xAi q.1;have e:rs.getD i []=rs[i]:=by rw[xBv,hrs]; rfl
   rw[e] at hl ⊢;generalize rs[i]=r0 at hrs hl ⊢;refine qD (by omega) (by have:=qW (rs:=rs) (fs:=F r0); omega) (λj r hj hr r' hr'=>?_) hl;rw[qX (by omega)] at hr
   by_cases ej:j=i
   ·subst ej;rw[hrs] at hr;cases hr;exact aDx hr'
   ·exact lK (hc j r (by omega) hr r' hr')
  ·rw[xAw q] at hl ⊢
   have hi':i=rs.length:=by
    have:¬ i<rs.length:=λz=>q ⟨z,hl⟩
    omega
   intro r hr r' hr';obtain⟨j,hj,ej⟩:=xDu.mp hr;exact hc j r (by omega) (by rw[xAi hj,ej]) r' hr'
section
variable (ms:List MW) (S:List Str)
def rOf (r:List Str):Str:=rN ((cH ms S).idxOf r)
def lZ:List Str:=((cH ms S).filter λr=>tM ms r).map (rOf ms S)
def fY:List Dr:=(cH ms S).flatMap λr=>(cY ms (jC ms S r) r).map λp=>(rOf ms S r,p.1,rOf ms S p.2)
end
section
variable {ms:List MW}{S:List Str}
theorem hG:(cH ms S).Nodup:=sY (aNb _)
theorem lF:ms.map (·.b)∈cH ms S:=yV (xAg.mpr rfl)
theorem lD (h:(cH ms S).length<=60){r r':List Str}{z:Str}(hr:r∈cH ms S)(hz:z∈S)(hw:wto ms r z=some r'):r'∈cH ms S:=
 qD (by decide) (xBu _) (λj _ hj=>xAu hj (Nat.not_lt_zero _)) h r hr r' (xDa.mpr ⟨z,hz,hw⟩)
theorem aBk (h:(cH ms S).length<=60){r:List Str}(hr:r∈cH ms S):(cH ms S).idxOf r<64:=by
 have:=xEr hr
 omega
theorem aMi (h:(cH ms S).length<=60){r r':List Str}(hr:r∈cH ms S)(hr':r'∈cH ms S)(e:rOf ms S r=rOf ms S r'):r=r':=by
 have ei:=aAi _ (aBk h hr) _ (aBk h hr') e;have l1:=xEr hr;have e1:=List.getElem_idxOf l1;have l2:=xEr hr';have e2:=List.getElem_idxOf l2;rw[<- e1,<- e2];congr 1
theorem uK (h:(cH ms S).length<=60):rOf ms S (ms.map (·.b))=rN 0:=by
 have:(cH ms S)[0]?=some (ms.map (·.b)):=by
  have:∀ {F:List Str->List (List Str)}{n i:Nat}{rs:xLL},0<rs.length->(gT F n rs i)[0]?=rs[0]?:=by
   intro F n
   induction n with
   | zero=>intro i rs _; rfl
   | succ n ih=>
    intro i rs hp;unfold gT;split
    ·rw[ih (xAy hp qW),qX hp]
    ·rfl
  rw[this (by show 0<1; decide)];rfl
 obtain⟨hl,e⟩:=xAd.mp this;unfold rOf;rw[<- e,xHq hG]
theorem sK {x:Dr}:x∈fY ms S↔∃ r∈cH ms S,∃ z∈S,∃ r',wto ms r z=some r'/\x=(rOf ms S r,z,rOf ms S r'):=by
 unfold fY;rw[xBl];constructor
 ·rintro⟨r,hr,hx⟩;obtain⟨p,hp,rfl⟩:=xAo.mp hx;obtain⟨z,hz,rfl⟩:=xAo.mp hp;obtain⟨hzS,hs⟩:=xCd.mp hz;obtain⟨r',er⟩:=xCr.mp hs;exact⟨r,hr,z,hzS,r',er,by rw[er]; rfl⟩
 ·rintro⟨r,hr,z,hz,r',er,rfl⟩;refine⟨r,hr,xAo.mpr ⟨(z,(wto ms r z).getD []),xAo.mpr ⟨z,xCd.mpr ⟨hz,by rw[er]; rfl⟩,rfl⟩,by rw[er]; rfl⟩⟩
end
theorem wE (ss:List Str):(mks ss []).length=(unl ss []).length:=by
 have:=congrArg List.length (wD ss [] [] rfl)
 rwa [xAa,xAa] at this
theorem yW {F:List Str->List (List Str)}{Ok:List Str->Prop}(hF:∀ r,Ok r->∀ r'∈F r,Ok r'):∀ {n i:Nat}{rs:xLL},(∀ r∈rs,Ok r)->∀ r∈gT F n rs i,Ok r
 | 0,_,_,h=>h
 | n+1,i,rs,h=>by
  unfold gT
  by_cases q:i<rs.length/\rs.length<=60
  ·rw[xAz q];have hrs:=xAi q.1;have e:rs.getD i []=rs[i]:=by rw[xBv,hrs]; rfl
   rw[e];refine yW hF λr hr=>?_;rcases tH hr with hr | hr
   ·exact h r hr
   ·exact hF _ (h _ (xCl q.1)) r hr
  ·rw[xAw q];exact h
theorem sZ {ms:List MW}{S:List Str}(hN:∀ m∈ms,m.rs.all aU=true):∀ r∈cH ms S,ROk ms r:=
 yW (λr hr r' hr'=>by
  obtain⟨z,_,hz⟩:=xDa.mp hr';exact hr.far hN hz) λr hr=>by rw[xAg.mp hr]; exact ROk.begin hN
section
variable {ms:List MW}{S:List Str}
theorem aHz (h:(cH ms S).length<=60){r:List Str}(hr:r∈cH ms S):aU (rOf ms S r)=true:=(aCy _ (aBk h hr)).1
theorem uN (h:(cH ms S).length<=60):∀ z∈cJ (rN 0) (lZ ms S) (fY ms S),∃ r∈cH ms S,z=rOf ms S r:=λz hz=>by
 rcases xBy.mp hz with hz | hz
 ·rcases xAk.mp hz with rfl | hz
  ·exact⟨_,lF,(uK h).symm⟩
  ·obtain⟨r,hr,rfl⟩:=xAo.mp hz;exact⟨r,(xCd.mp hr).1,rfl⟩
 ·obtain⟨x,hx,hz⟩:=xBl.mp hz;obtain⟨r,hr,y,hy,r',er,rfl⟩:=sK.mp hx;rcases xAk.mp hz with rfl | hz
  ·exact⟨r,hr,rfl⟩
  ·rw[xAg.mp hz];exact⟨r',lD h hr hy er,rfl⟩
theorem nY (h:(cH ms S).length<=60):(cJ (rN 0) (lZ ms S) (fY ms S)).all aU=true:=xBn.mpr λz hz=>by
 obtain⟨r,hr,rfl⟩:=uN h z hz;exact aHz h hr
theorem sJ (h:(cH ms S).length<=60):(mks (cJ (rN 0) (lZ ms S) (fY ms S)) []).length<=60:=by
 rw[wE];refine xAs (gC (N:=(cH ms S).map (rOf ms S)) λz hz=>?_) (by rw[xAa]; exact h);obtain⟨r,hr,rfl⟩:=uN h z hz;exact xAo.mpr ⟨r,hr,rfl⟩
theorem wC (h:(cH ms S).length<=60)(nd:S.Nodup):Apart (fY ms S):=by
 refine xDt.mpr (List.pairwise_flatMap.mpr ⟨λr hr=>?_,?_⟩)
 ·refine xDt.mpr (xDt.mpr (List.Pairwise.imp (λ{a b} hne e=>?_) (nd.filter _)));exact hne (Prod.mk.inj e).2
 ·refine xFh (λ{a b} ha hb hne x hx y hy e=>?_) hG;obtain⟨p,_,rfl⟩:=xAo.mp hx;obtain⟨p',_,rfl⟩:=xAo.mp hy;exact hne (aMi h ha hb (Prod.mk.inj e).1)
theorem aFi (h:(cH ms S).length<=60):(lZ ms S).length<=60:=by
 unfold lZ;rw[xAa];exact xAs (xDc ..) h
theorem lA {α β:Type}{f:α->List β}{k:Nat}:∀ {l:List α},(∀ a∈l,(f a).length<=k)->(l.flatMap f).length<=k*l.length
 | [],_=>xBu _
 | a::l,h=>by
  have h1:=h a (xBm ..);have h2:=lA (l:=l) λb hb=>h b (xBi _ hb);rw[xGw,xAn,xBf,Nat.mul_succ];omega
theorem rB (r:List Str):(cY ms (jC ms S r) r).length<=S.length:=by
 unfold cY jC;rw[xAa];exact xDc ..
theorem aAx (h:(cH ms S).length<=60)(h12:S.length<=12):(fY ms S).length<=720:=by
 have:=lA (k:=12) (l:=cH ms S) (f:=λr=>(cY ms (jC ms S r) r).map λp=>(rOf ms S r,p.1,rOf ms S p.2)) λr _=>by
  rw[xAa];exact xAs (rB r) h12
 unfold fY;omega
def nmK (ms:List MW)(S:List Str)(rs:xLL):List (List Key×V):=rs.map λr=>(r.map Sum.inr,V.str (rOf ms S r))
theorem aJx (rs:xLL):(nmK ms S rs).map (·.1)=rs.map λr=>r.map Sum.inr:=by
 unfold nmK;rw[xDb];rfl
theorem oB:∀ {rs:xLL}{r:List Str},r∈rs->dE (nmK ms S rs) (r.map Sum.inr)=some (.str (rOf ms S r))
 | x::rs,r,h=>by
  unfold nmK dE;rw[xBx,xCw]
  by_cases e:x=r
  ·rw[e,xAm rfl];rfl
  ·rw[xBc λz=>e (wI z)];exact oB ((xAk.mp h).resolve_left λz=>e z.symm)
end
theorem aNa {α:Type}{l:List α}(h:l.Nodup){i:Nat}{a:α}(e:l[i]?=some a):¬ a∈l.take i:=λhm=>by
 obtain⟨j,hj,ej⟩:=xDu.mp hm;rw[xBb] at hj;rw[List.getElem_take] at ej;have hi:=(xAd.mp e).1
 have:=(xEe (i:=j) (j:=i) (by omega) h).mp (by rw[e,xAi (by omega),ej])
 omega
theorem fP.tf {H:Hp}{a b:Addr}{o:Obj}{kvs:List (List Key×V)}{k:List Key}(e:H a=some (.frz o (.dT kvs)))(eb:H b=some (.tup (k.map kV))):fP H a (.ref b) (dE kvs k):=.inr ⟨kvs,k,b,.inr ⟨o,e⟩,rfl,eb,rfl⟩
inductive aHa (C CM CW cT Pr:Addr)(vs:List V)(H:Hp)(Q:VK)(E:XK):Prop
 | mk (v x:Addr)(ms:List MW)(S:List Str)(wk:List (Key×V))(h0_:vs=[.ref v])(h1_:Wv CM CW H v x ms)(h2_:1<=ms.length/\ms.length<=100)(h3_:∀ m∈ms,m.rs.all aU=true)(h4_:WAt C H x wk)(h5_:∀ z∈wkn ms,z∈S)(h6_:S.length<=12)(h7_:∀ z∈S,cZ wk (.str z)=true)
  (h8_:xBt S=true)(h9_:S.Nodup)(h10_:Tab dI dH Pr H)
  (h11_:(cH ms S).length<=60->∀ (X:Addr) (kn:List Str) H',aM (off H Pr) H'->Tab dI dH Pr H'->(∀ z,z∈kn↔z∈wkn ms)->MM CM H' X x (rN 0) (lZ ms S) kn (fY ms S)->Q (.ref X) H')
  (h12_:60<(cH ms S).length->∀ H',aM (off H Pr) H'->Tab dI dH Pr H'->E (.ref cT) none H')
abbrev NMO:List Str:=["woven","names","place","room","doors","deed","far","ends"]
theorem vL:aO NMO ["woven"] (aA nM):=xfs
abbrev aSy:List Str:=["room","names","woven"]
theorem aMt {f fWR fWy fWE fWD fWB fWK fMI C CM CW cT Pr:Addr}{fd fdWR fdWy fdWE fdWD fdWB fdWK fdMI:FuncData}(F:Fun K "made_one" "made_one" nM f fd)(T:Txt K mg)(WC:tJ K CW)
  (GWR:aP P w K mg base (CXE P w) 10 fWR fdWR ["self"] (xB C CM CW cT Pr))(bWR:aS K fdWR ["self"] [])(mWR:eI K CW "rooms" fWR)
  (GWy:aP P w K mg base CX0 6 fWy fdWy ["self","room"] (qL K C CM CW))(bWy:aS K fdWy ["self","room"] [])(mWy:eI K CW "ways" fWy)
  (GWE:aP P w K mg base CX0 5 fWE fdWE ["self","room"] (xC K CM CW))(bWE:aS K fdWE ["self","room"] [])(mWE:eI K CW "is_end" fWE)
  (GWD:aP P w K mg base CX0 2 fWD fdWD ["self"] (rF CM CW))(bWD:aS K fdWD ["self"] [])(mWD:eI K CW "deeds" fWD)
  (GWB:aP P w K mg base CX0 3 fWB fdWB ["self"] (rG CM CW))(bWB:aS K fdWB ["self"] [])(mWB:eI K CW "begin" fWB)
  (GWK:aP P w K mg base CX0 1 fWK fdWK ["self"] (rE CM CW))(bWK:aS K fdWK ["self"] [])(mWK:eI K CW "knows" fWK)
  (GMI:aP P w K mg base (CXE P w) 4 fMI fdMI ["self","deeds","begin","ends","doors","more"] (nJ K C CM))(MMk:Mk K CM fMI)(bMI:aS K fdMI ["self","deeds","begin","ends","doors","more"] [])(mMa:mg "Machine" = some (.ref CM)) :
  aP P w K mg base (CXE P w) 11 f fd ["woven"] (aHa C CM CW cT Pr):=by
 refine okE F vL (λvs H Q E h=>?_) (λcdv A outer s H vs Q E hr h D=>?_)
 ·obtain⟨v,x,ms,S,wk,rfl,_⟩:=h;rfl
 ·obtain⟨v,x,ms,S,wk,rfl,W,hl,hN,hW,hkS,h12,hg,so,nd,TB,q1,q2⟩:=h;have hu:=jG hr;have hr1:bY 1 _:=hr.mono (by decide);have hr2:bY 2 _:=hr.mono (by decide);have hr3:bY 3 _:=hr.mono (by decide);have hr5:bY 5 _:=hr.mono (by decide);have hr6:bY 6 _:=hr.mono (by decide)
  refine⟨_,aJ (bO (i:=1) vL.nd rfl (xHo rfl) aIf)
   (aJ (eV PassesOwn.leaving rfl (aDb rfl T.enum (pac (dP (E:=E) (pv 0) WC.cl mWR GWR hr bWR .nil (D.passes λ_ _ _ z=>z)) aE)) (iK rfl (cB (aW (i:=2) vL.nd rfl (xBg rfl)) (cB (aW (i:=3) vL.nd rfl (xBg rfl)) gH)))
    (aK (jS hu (pv 1) (pv 3) (xU aL (vY (pv 2))) rfl)))
   (aJ (bO (i:=4) vL.nd rfl (xBg rfl) (aV aE))
   (aJ (eV PassesOwn.leaving rfl (xQ (sE (pv 1))) (aW (i:=3) vL.nd rfl (xBg rfl))
    (aK (eV PassesOwn.leaving rfl (dC (dQ (pv 0) WC.cl mWy GWy hr6 bWy .nil aY (pac (pv 3) aE))) (iK rfl (cB (aW (i:=5) vL.nd rfl (xBg rfl)) (cB (aW (i:=6) vL.nd rfl (xBg rfl)) gH)))
     (aK (cX (kU xBq xDh xDg iF (pv 4) (pac (cU (pac (iW hu (pv 1) (pv 3) (λ_ _=>rfl)) (pac (pv 5) (pac (iW hu (pv 1) (pv 6) (λ_ _=>rfl)) aE)))) aE)))))))
   (aJ (jR (i:=7) (N':=aSy) (nown:=1) (js:=[1,0]) rfl vL.nd rfl rfl rfl
     xbs (dF (aA nM) NMO rfl rfl (by decide +kernel))
     ⟨λ_ _ _ _=>aW (i:=0) (show List.Nodup aSy by decide +kernel) rfl (xBg rfl) (.inr rfl),λ_ _ _ _=>vU (iJ (dQ (pv 2) WC.cl mWE GWE hr5 bWE .nil aY (pac (pv 0) aE))),λ_ _ _ _=>iW hu (pv 1) (pv 0) (λ_ _=>rfl)⟩
     (xQ (sE (pv 1))))
   (aK (aQ (cL (E:=E0) MMk GMI hr5 rfl mMa bMI .nil gJ (pac (dP (pv 0) WC.cl mWD GWD hr2 bWD .nil aY) (pac (iW hu (pv 1) (dP (pv 0) WC.cl mWB GWB hr3 bWB .nil aY) (λ_ _=>rfl)) (pac (pv 7) (pac (pv 4) (pac (dP (pv 0) WC.cl mWK GWK hr1 bWK .nil aY) aE)))))))))))),?_⟩
  intro nm hnm;have s1:aM H (upd H nm (.dT [])):=smu hnm;have e1:(upd H nm (.dT [])) nm=some (.dT (nmK ms S [])):=aD;generalize upd H nm (.dT [])=H1 at s1 e1 ⊢;have W1:=W.same s1;have hW1:=dS hW s1;have T1:=TB.same s1;obtain⟨dv,lm,lk',kn',hi1,_⟩:=id W1;refine⟨_,rfl,v,dv,_,rfl,hi1,dL _ _ _ (by decide),v,x,ms,S,wk,rfl,W1,hl,hN,hW1,hkS,by omega,hg,so,nd,T1,λhle L bs H2 s2 n2 T2 eL tp2=>?_,λhgt H2 s2 T2=>q2 hgt H2 ((sI s1).trans s2) T2⟩;have q1':=q1 hle;clear q1 q2;have nt2:=eU T1.tb s2;have W2:=ntV nt2 W1;have hW2:=ntW nt2 hW1;obtain⟨psr,hpr⟩:=T1.tb;have e2:H2 nm=some (.dT (nmK ms S [])):=s2 _ _ (gS (eZ e1 hpr (λz=>nomatch z)) e1);have sO:aM (off H Pr) H2:=(sI s1).trans s2;have okr:=sZ (ms:=ms) (S:=S) hN;have inr:=λ(r:List Str) (hr:r∈cH ms S) (z:Str) (hz:z∈S) (r':List Str) (hw:wto ms r z=some r')=>lD hle hr hz hw;have ndr:(cH ms S).Nodup:=hG;have bgn:ms.map (·.b)∈cH ms S:=lF;have eDo:(cH ms S).flatMap (λr=>(cY ms (jC ms S r) r).map λp=>(rOf ms S r,p.1,rOf ms S p.2))=fY ms S:=rfl;have eEn:((cH ms S).filter λr=>tM ms r).map (rOf ms S)=lZ ms S:=rfl
  have eIx:∀ i r,(cH ms S)[i]?=some r->rOf ms S r=rN i:=λi r h=>by
   obtain⟨hi,e⟩:=xAd.mp h;unfold rOf;rw[<- e,xHq ndr]
  have lbs:bs.length=(cH ms S).length:=Paired.length tp2;have dl:=aAx hle h12;have el:=aFi hle;have hap:=wC hle nd;have hrn:=nY hle;have hrf:=sJ hle;have hb0:=uK hle;have hnm':=hnm;clear s2 nt2 W1 hW1 T1 hi1 e1 s1 hW W TB hnm;generalize cH ms S=rs at *;refine⟨L,rfl,⟨_,SqL.of eL⟩,?_⟩;refine aKv (xs:=bs.map V.ref) (λi σ H'=>∃ x2 x3:Option V,σ=[some (.ref v),some (.ref nm),x2,x3,none,none,none,none]/\H' nm=some (.dT (nmK ms S (rs.take i)))/\SameBut nm H2 H') ?_ ?_ ?_ ?_
  ·exact⟨_,_,rfl,e2,λb o _ e=>e⟩
  ·rintro i σ H' _ ⟨x2,x3,rfl,a1,a2⟩;exact SqL.of (a2 _ _ (eZ eL e2 (λz=>nomatch z)) eL)
  ·rintro i u σ H' t hv ⟨x2,x3,rfl,a1,a2⟩ ht;rw[xAj] at hv;cases hb:bs[i]? with
   | none=>rw[hb] at hv; cases hv
   | some b=>
    rw[hb] at hv;cases hv;obtain⟨r,hr,hbr⟩:=tp2.get hb;have hi:i<rs.length:=(xAd.mp hr).1;have hb':=a2 _ _ (eZ hbr e2 (λz=>nomatch z)) hbr;have k1:aM H' (upd H' t (.tup [.int i,.ref b])):=smu ht;have et:(upd H' t (.tup [.int i,.ref b])) t=some (.tup [.int i,.ref b]):=aD;generalize upd H' t (.tup [.int i,.ref b])=H3 at k1 et ⊢;refine⟨t,_,rfl,SqT.of et,rfl,_,_,rfl,_,_,rfl,rfl,?_⟩;have hln:=(aCy i (by omega)).2;refine⟨_,rfl,by decide +kernel,_,rfl,(i:Int),rfl,uR i (by omega),_,rfl,jN (xAs hln (by decide)),jN (xAs hln (by decide)),_,rfl,_,rfl,nm,_,rfl,pS.t (k:=r.map Sum.inr) (k1 _ _ a1) (by rw[iO]; exact k1 _ _ hb') (bS (by unfold nmK; rw[xAa,xBb]; omega)),?_⟩;refine⟨_,_,rfl,?_,λb o n e=>by rw[aH n]; exact k1 _ _ (a2 b o n e)⟩;rw[aD,aCz]
    ·rw[xBo,hr];unfold nmK;rw[xAx];show _=some (HO.dT (_++[(r.map Sum.inr,V.str (rOf ms S r))]));rw[eIx i r hr];rfl
    ·rw[wH (aJx _),xBc];exact aNa ndr hr
  rintro σ H3 ⟨x2,x3,rfl,a1,a2⟩;rw[xAa,lbs,xBa] at a1;refine⟨by show 0<=sizeLine; decide,λdd hdd=>?_⟩;have nmd:nm≠dd:=aI a1 hdd;refine⟨_,rfl,.mk nm _ rfl (smu hdd _ _ a1) λo=>⟨nm,o,_,rfl,aD,?_⟩⟩;have B0:∀ b u,b≠nm->H2 b=some u->(upd H3 nm (.frz o (.dT (nmK ms S rs)))) b=some u:=λb u n e=>by rw[aH n]; exact a2 b u n e
  have Bn:(upd H3 nm (.frz o (.dT (nmK ms S rs)))) nm=some (.frz o (.dT (nmK ms S rs))):=aD;have Bd:(upd H3 nm (.frz o (.dT (nmK ms S rs)))) dd=none:=by rw[aH (Ne.symm nmd)]; exact hdd
  have B5:aM (upd H3 nm (.frz o (.dT (nmK ms S rs)))) (upd (upd H3 dd (.lst [])) nm (.frz o (.dT (nmK ms S rs)))):=λb u e=>by
   by_cases n:b=nm
   ·rw[n,aD] at e ⊢;exact e
   ·rw[aH n] at e ⊢;exact smu hdd _ _ e
  have D5:eD (upd (upd H3 dd (.lst [])) nm (.frz o (.dT (nmK ms S rs)))) dd []:=⟨[],by rw[aH (Ne.symm nmd),aD]; rfl,rfl,λi t x z=>nomatch z⟩;generalize upd H3 nm (.frz o (.dT (nmK ms S rs)))=B at B0 Bn Bd B5;generalize upd (upd H3 dd (.lst [])) nm (.frz o (.dT (nmK ms S rs)))=H5 at B5 D5 ⊢;have ntB:NTb H2 B:=λb u e p=>B0 b u (aOw e2 (λz=>z) e p) e;have WB:=ntV ntB W2;have hWB:=ntW ntB hW2;have TB:Tab dI dH Pr B:=T2.elim (λh=>.inl (B0 _ _ (eZ h e2 (λz=>nomatch z)) h)) λ⟨c',h1,h2⟩=>.inr ⟨c',B0 _ _ (eZ h1 e2 (λz=>nomatch z)) h1,B0 _ _ (eZ h2 e2 (λz=>nomatch z)) h2⟩;have sOB:aM (off H Pr) B:=λb u e=>B0 _ _ (λz=>by have:=sO _ _ e; rw[z] at e; rw[(cS e).2] at hnm'; cases hnm') (sO _ _ e);have knm:(nmK ms S rs).length=rs.length:=by unfold nmK; rw[xAa]
  have kvr:∀ (i:Nat) (kv:List Key×V),(nmK ms S rs)[i]?=some kv->∃ r,rs[i]?=some r/\kv=(r.map Sum.inr,V.str (rOf ms S r)):=λi kv hkv=>by
   unfold nmK at hkv;rw[xAj] at hkv;cases hr:rs[i]? with
   | none=>rw[hr] at hkv; cases hkv
   | some r=>rw[hr] at hkv; cases hkv; exact⟨r,rfl,rfl⟩
  have S64:S.length<64:=by omega
  clear a1 a2 hdd B0 e2 eL tp2 n2 T2 W2 hW2 ntB;refine aFw (kvs:=nmK ms S rs) (λi σ H'=>∃ x2 x3 x5 x6:Option V,σ=[some (.ref v),some (.ref nm),x2,x3,some (.ref dd),x5,x6,none]/\eD H' dd ((rs.take i).flatMap λr=>(cY ms (jC ms S r) r).map λp=>(rOf ms S r,p.1,rOf ms S p.2))/\aM B H') ?_ ?_ ?_ ?_
  ·exact⟨_,_,_,_,rfl,D5,B5⟩
  ·rintro i σ H' _ ⟨x2,x3,x5,x6,rfl,a1,a2⟩;exact a2 _ _ Bn
  ·rintro i kv b σ H' hkv hb ⟨y2,y3,y5,y6,rfl,a1,a2⟩;obtain⟨r,hr,rfl⟩:=kvr i kv hkv;have hrm:=xBe hr;have hb:H' b=some (.tup (r.map V.str)):=by rw[<- iO]; exact hb
   have WH:=WB.same a2;obtain⟨dvh,lmh,lkh,knh,hih,_⟩:=id WH;refine⟨_,rfl,v,dvh,_,rfl,hih,dL _ _ _ (by decide),_,rfl,v,x,b,ms,r,S,wk,rfl,WH,hb,okr r hrm,hl,dS hWB a2,hkS,S64,hg,so,nd,λl H6 s6 n6 Wy=>?_⟩;obtain⟨ts,w0,w1,w2⟩:=Wy.ex;obtain⟨us0,u0,u1,_⟩:=id a1.ex;have ld:l≠dd:=λz=>by rw[z,u0] at n6; cases n6
   have dd6:=s6 _ _ u0;have nB:aM B H6:=a2.trans s6
   have fmem:∀ z∈cY ms (jC ms S r) r,z.2∈rs:=λz hz=>by
    obtain⟨y,hy,rfl⟩:=xAo.mp hz;obtain⟨hyS,hs⟩:=xCd.mp hy;obtain⟨r',er⟩:=xCr.mp hs;show (wto ms r y).getD []∈rs;rw[er];exact inr r hrm y hyS r' er
   have wl:(cY ms (jC ms S r) r).length<=12:=xAs (rB r) h12
   have pl:=lA (k:=12) (l:=rs.take i) (f:=λr=>(cY ms (jC ms S r) r).map λp=>(rOf ms S r,p.1,rOf ms S p.2)) λr _=>by
    rw[xAa];exact xAs (rB r) h12
   rw[xBb] at pl
   have etk:(rs.take (i+1)).flatMap (λr=>(cY ms (jC ms S r) r).map λp=>(rOf ms S r,p.1,rOf ms S p.2))=(rs.take i).flatMap (λr=>(cY ms (jC ms S r) r).map λp=>(rOf ms S r,p.1,rOf ms S p.2))++(cY ms (jC ms S r) r).map λp=>(rOf ms S r,p.1,rOf ms S p.2):=by
    rw[xBo,hr,List.flatMap_append,Option.toList_some,xGw,List.flatMap_nil,xBk]
   refine⟨l,rfl,⟨_,SqL.of w0⟩,?_⟩;generalize (rs.take i).flatMap (λr=>(cY ms (jC ms S r) r).map λp=>(rOf ms S r,p.1,rOf ms S p.2))=pre at a1 pl etk;generalize cY ms (jC ms S r) r=fs at w1 w2 fmem wl etk;refine dY (xs:=ts.map V.ref) (λj σ H7=>∃ z5 z6:Option V,σ=[some (.ref v),some (.ref nm),y2,some (.ref b),some (.ref dd),z5,z6,none]/\eD H7 dd (pre++(fs.take j).map λp=>(rOf ms S r,p.1,rOf ms S p.2))/\SameBut dd H6 H7/\aM B H7) ?_ ?_ ?_ ?_
   ·exact⟨_,_,rfl,by rw[List.take_zero,xFu,xBk]; exact a1.same s6,λb o _ e=>e,nB⟩
   ·rintro j σ H7 _ ⟨z5,z6,rfl,c1,c2,c3⟩;exact SqL.of (c2 _ _ ld w0)
   ·rintro j vv σ H7 hv ⟨z5,z6,rfl,c1,c2,c3⟩;rw[xAj] at hv;cases hy:ts[j]? with
    | none=>rw[hy] at hv; cases hv
    | some y=>
     rw[hy] at hv;cases hv;have hj:j<fs.length:=by rw[<- w1]; exact (xAd.mp hy).1
     have hz:=xAi hj;have hzm:fs[j]∈fs:=xCl hj;generalize fs[j]=z at hz hzm;obtain⟨u,w3,w4⟩:=w2 j y z hy hz;have w3':=c2 _ _ (eZ w3 dd6 (λz=>nomatch z)) w3;have w4':=c2 _ _ (eZ w4 dd6 (λz=>nomatch z)) w4;have b7:=c2 _ _ (eZ (s6 _ _ hb) dd6 (λz=>nomatch z)) (s6 _ _ hb);have n7:=c3 _ _ Bn;have g1:=fP.tf (k:=r.map Sum.inr) n7 (b:=b) (by rw[iO]; exact b7);rw[oB hrm] at g1;have g2:=fP.tf (k:=z.2.map Sum.inr) n7 (b:=u) (by rw[iO]; exact w4');rw[oB (fmem z hzm)] at g2;obtain⟨vs,v0,v1,_⟩:=id c1.ex;refine⟨y,_,rfl,SqT.of w3',rfl,_,_,rfl,_,_,rfl,rfl,?_⟩;refine⟨_,rfl,.inl ⟨rfl,_,SqL.of v0⟩,_,rfl,_,rfl,nm,_,rfl,g1,_,rfl,_,rfl,_,rfl,nm,_,rfl,g2,by show 3<=sizeLine; decide,λtt htt=>?_⟩;obtain⟨xs,x0,x1,xd⟩:=c1.push htt (rOf ms S r,z.1,rOf ms S z.2);rw[v0] at x0;cases x0;refine⟨dd,_,_,rfl,rfl,smu htt _ _ v0,bS (by rw[xAa,v1,xAn,xAa,xBb]; omega),?_⟩;refine⟨_,_,rfl,?_,λb' o' n e=>by rw[aH n]; exact smu htt _ _ (c2 b' o' n e),λb' o' e=>by rw[aH (aI e Bd)]; exact smu htt _ _ (c3 _ _ e)⟩;rw[xBo,hz,xAx,<- List.append_assoc];exact xd
   ·rintro σ H7 ⟨z5,z6,rfl,c1,c2,c3⟩;rw[xAa,w1,xBa] at c1;exact⟨_,_,_,_,rfl,by rw[etk]; exact c1,c3⟩
  rintro σ H6 ⟨y2,y3,y5,y6,rfl,a1,a2⟩;rw[knm,xBa,eDo] at a1;have n6:=a2 _ _ Bn;refine⟨_,rfl,.no o nm _ rfl n6 ⟨nm,o,_,rfl,n6,λD2 hD2=>?_⟩⟩;refine aGh (kvs:=nmK ms S rs) (λi σ' H'=>∃ v0,σ'=[v0,some (.ref nm),some (.ref v)]/\H' D2=some (.lst ((((rs.take i).filter λr=>tM ms r).map (rOf ms S)).map V.str))/\aM H6 H') ?_ ?_ ?_ ?_
  ·exact⟨none,rfl,aD,smu hD2⟩
  ·rintro i σ' H' _ ⟨v0,rfl,c1,c2⟩;exact c2 _ _ n6
  ·rintro i kv b σ' H' hkv hb ⟨v0,rfl,c1,c2⟩;obtain⟨r,hr,rfl⟩:=kvr i kv hkv;have hrm:=xBe hr;have hb:H' b=some (.tup (r.map V.str)):=by rw[<- iO]; exact hb
   have WH:=WB.same (a2.trans c2);obtain⟨dvh,lmh,lkh,knh,hih,_⟩:=id WH
   have ef:(rs.take (i+1)).filter (λr=>tM ms r)=(rs.take i).filter (λr=>tM ms r)++(if tM ms r=true then [r] else []):=by
    rw[xBo,hr,List.filter_append];congr 1;show List.filter _ [r]=_;rw[xFl,List.filter_nil]
   have lf:((rs.take i).filter λr=>tM ms r).length<=60:=xAs (xDc ..) (by rw[xBb]; omega);refine⟨_,rfl,v,dvh,_,rfl,hih,dL _ _ _ (by decide),_,rfl,v,x,b,ms,r,rfl,WH,SqT.of hb,okr r hrm,hl.2,λH7 s7=>⟨_,rfl,?_⟩⟩;cases hw:tM ms r with
   | false=>
    refine gF ⟨_,rfl,?_,c2.trans s7⟩;rw[ef,hw]
    simpa using s7 _ _ c1
   | true=>
    have g1:=fP.tf (k:=r.map Sum.inr) (s7 _ _ (c2 _ _ n6)) (b:=b) (by rw[iO]; exact s7 _ _ hb);rw[oB hrm] at g1;refine iD ⟨_,rfl,_,rfl,nm,_,rfl,g1,_,s7 _ _ c1,bS (by rw[xAa,xAa]; omega),_,rfl,?_,λb o e=>?_⟩
    ·rw[aD,ef,hw,xAx,xAx];rfl
    ·rw[aH (aI e hD2)];exact s7 _ _ (c2 _ _ e)
  rintro σ' H8 ⟨v0,rfl,c1,c2⟩;rw[knm,xBa,eEn] at c1;have s8:=a2.trans c2;have W8:=WB.same s8;obtain⟨dvh,lmh,lkh,knh,hih,_⟩:=id W8;refine⟨_,rfl,v,dvh,_,rfl,hih,dL _ _ _ (by decide),v,x,ms,rfl,W8,hl.1,_,rfl,_,rfl,v,dvh,_,rfl,hih,dL _ _ _ (by decide),v,x,ms,rfl,W8,hl.2,λbg H9 s9 n9 e9=>?_⟩;have g1:=fP.tf (k:=(ms.map (·.b)).map Sum.inr) (s9 _ _ (c2 _ _ n6)) (b:=bg) (by rw[iO]; exact e9);rw[oB bgn,hb0] at g1;have W9:=W8.same s9;have s9B:=s8.trans s9;obtain⟨dv9,lm9,lk9,kn9,hi9,_⟩:=id W9;refine⟨nm,_,rfl,g1,_,rfl,_,rfl,_,rfl,v,dv9,_,rfl,hi9,dL _ _ _ (by decide),v,x,ms,S,rfl,W9,hkS,S64,λkl kts H10 s10 n10 e10 S10 X dX hX hdX _=>?_⟩;have s10B:=s9B.trans s10;have k1:aM H10 (upd (upd H10 dX (.own X)) X (.ins CM dX [])):=λb o' e'=>by rw[aH (aI e' hX),aH (aI e' hdX)]; exact e'
  have hkn:∀ z,z∈dO (fY ms S) kts↔z∈wkn ms:=λz=>by
   unfold dO;rw[xBy,S10.mem];refine⟨λh=>h.elim (λh=>?_) id,.inr⟩;obtain⟨y,hy,rfl⟩:=xAo.mp h;obtain⟨r,hr,z,hz,r',er,rfl⟩:=sK.mp hy;exact aGj (by rw[er]; rfl)
  have hgk:∀ z∈dO (fY ms S) kts,cZ wk (.str z)=true:=λz hz=>hg z (hkS z ((hkn z).mp hz))
  have lk:kts.length<=64:=by
   have:=gC (rs:=kts) (N:=S) λz hz=>hkS z ((S10.mem z).mp hz)
   rw[<- (kQ (m:=unl kts []) S10.nd (λz hz=>oS.mpr hz) (gC λz hz=>hz)).length_eq] at this;omega
  refine⟨X,x,D2,dd,dX,rN 0,.ref kl,lZ ms S,kts,fY ms S,wk,rfl,aD,dS hWB (s10B.trans k1),k1 _ _ (s10 _ _ (s9 _ _ c1)),((a1.same (c2.trans s9)).same s10).same k1,.inr ⟨kl,rfl,k1 _ _ e10⟩,⟨by omega,by omega,by omega⟩,hrn,xBn.mpr λy hy=>?_,λz hz=>pN (hgk z hz),hap,hrf,λlM eM kM kvs g H11 sb M11=>⟨rfl,q1' X _ H11 (sOB.trans (λb u e=>sb b u (aI (s10B _ _ e) hX) (k1 _ _ (s10B _ _ e)))) (TB.same (λb u e=>sb b u (aI (s10B _ _ e) hX) (k1 _ _ (s10B _ _ e)))) hkn ⟨dX,lM,eM,kM,kvs,g,M11⟩⟩⟩;obtain⟨z,hz,rfl⟩:=xAo.mp hy;exact hgk z hz
end
end K34
namespace K34
open PySem L2 Ky PySem.W
seal L2.PE L2.PS L2.PSs L2.PA L2.PT L2.PW L2.PG L2.PI L2.PTs L2.PO L2.OpR L2.IxR L2.CallR L2.MtM L2.MtR
inductive RK
 | never (a:Str) | most (a:Str) (n:Nat) | two (w:Fin 4) (a b:Str)
def tpl:Fin 4->List (Nat×Bool×Nat)
 | 0=>[(0,false,1),(1,false,1),(1,true,1)]
 | 1=>[(0,false,1),(1,true,0)]
 | 2=>[(0,false,1),(0,true,0),(1,true,0)]
 | 3=>[(0,false,1),(0,true,0),(1,false,1),(1,true,0)]
abbrev dor (a b:Str)(t:Nat×Bool×Nat):Dr:=(rN t.1,if t.2.1=true then b else a,rN t.2.2)
def RK.ends:RK->List Str
 | .never _=>[rN 0]
 | .most _ n=>(List.range (n+1)).map rN
 | .two w _ _=>if w=3 then [rN 0] else [rN 0,rN 1]
def RK.doors:RK->List Dr
 | .never _=>[]
 | .most a n=>(List.range n).map λi=>(rN i,a,rN (i+1))
 | .two w a b=>(tpl w).map (dor a b)
def RK.about:RK->List Str
 | .two _ a b=>[a,b]
 | .never a=>[a]
 | .most a _=>[a]
def RK.more:RK->List Str
 | .two _ _ _=>[]
 | .never a=>[a]
 | .most a _=>[a]
def RK.idx:RK->Nat
 | .never _=>0
 | .most _ _=>1
 | .two w _ _=>2+w
def RK.flds:RK->List (Str×V)
 | .never a=>[("deed",.str a)]
 | .most a n=>[("deed",.str a),("many",.int n)]
 | .two _ a b=>[("one",.str a),("other",.str b)]
def RK.Wf:RK->Prop
 | .never _=>True
 | .most _ n=>n<=6
 | .two _ a b=>a≠b
abbrev RK.mw (k:RK):MW:=⟨rN 0,k.ends,dO k.doors k.more,k.doors⟩
structure MOk (S:List Str)(m:MW):Prop where
 nm:m.rs.all aU=true
 kn:∀ z∈m.kn,z∈S
 few:(unl m.rs []).length<=60
theorem uP {b:Str}{es:List Str}{ds:List Dr}{z:Str}(h:z∈cJ b es ds):z=b\/z∈es\/∃ x∈ds,z=x.1\/z=x.2.2:=by
 unfold cJ eJ at h;simp only[List.cons_append,List.mem_cons,List.mem_append,List.mem_flatMap,List.not_mem_nil,or_false] at h;exact h
theorem aQk (k:RK)(hk:k.Wf):∀ z∈k.mw.rs,∃ i,i<8/\z=rN i:=by
 intro z hz;rcases uP hz with rfl | h | ⟨x,hx,h⟩
 ·exact⟨0,by decide,rfl⟩
 ·cases k with
  | never a=>exact⟨0,by decide,xAg.mp h⟩
  | most a n=>
   obtain⟨i,hi,rfl⟩:=xAo.mp h
   have:=xCa.mp hi
   have:n<=6:=hk
   exact⟨i,by omega,rfl⟩
  | two w a b=>
   simp only[RK.ends] at h;split at h
   ·exact⟨0,by decide,xAg.mp h⟩
   ·rcases xAk.mp h with rfl | h
    ·exact⟨0,by decide,rfl⟩
    ·exact⟨1,by decide,xAg.mp h⟩
 ·cases k with
  | never a=>cases hx
  | most a n=>
   obtain⟨i,hi,rfl⟩:=xAo.mp hx
   have:=xCa.mp hi
   have:n<=6:=hk
   rcases h with rfl | rfl
   ·exact⟨i,by omega,rfl⟩
   ·exact⟨i+1,by omega,rfl⟩
  | two w a b=>
   obtain⟨t,ht,rfl⟩:=xAo.mp hx
   have:=(show ∀ w,∀ t∈tpl w,t.1<2/\t.2.2<2 by decide) w t ht
   rcases h with rfl | rfl
   ·exact⟨t.1,by omega,rfl⟩
   ·exact⟨t.2.2,by omega,rfl⟩
theorem gY (k:RK)(z:Str):z∈k.mw.kn↔z∈k.about:=by
 show z∈k.doors.map (·.2.1)++k.more↔_;rw[xBy,xAo];cases k with
 | never a=>exact⟨λh=>h.elim (λ⟨_,h,_⟩=>nomatch h) id,.inr⟩
 | most a n=>
  refine⟨λh=>h.elim (λ⟨x,h,e⟩=>?_) id,.inr⟩;obtain⟨i,_,rfl⟩:=xAo.mp h;exact xAg.mpr e.symm
 | two w a b=>
  have hh:=(show ∀ w,((tpl w).any λt=>!t.2.1)=true/\((tpl w).any λt=>t.2.1)=true by decide) w;constructor
  ·rintro (⟨x,h,rfl⟩ | h)
   ·obtain⟨t,_,rfl⟩:=xAo.mp h;show (if t.2.1=true then b else a)∈[a,b]
    split <;> simp
   ·cases h
  ·intro h;rcases xAk.mp h with rfl | h
   ·obtain⟨t,ht,e⟩:=xDj.mp hh.1;exact .inl ⟨_,xAo.mpr ⟨t,ht,rfl⟩,xAw (λq=>by have e:(!t.2.1)=true:=e; rw[q] at e; cases e)⟩
   ·obtain⟨t,ht,e⟩:=xDj.mp hh.2;exact .inl ⟨_,xAo.mpr ⟨t,ht,rfl⟩,(xAz e).trans (xAg.mp h).symm⟩
structure RF (k:RK):Prop where
 nm:k.mw.rs.all aU=true
 ap:Ky.Apart k.doors
 few:(unl k.mw.rs []).length<=8
 le:k.ends.length<=200/\k.doors.length<=800/\k.more.length<=200
theorem rW (k:RK)(hk:k.Wf):RF k:=by
 have r8:=aQk k hk;refine⟨xBn.mpr λz hz=>?_,?_,?_,?_⟩
 ·obtain⟨i,hi,rfl⟩:=r8 z hz;exact (aCy i (by omega)).1
 ·unfold Ky.Apart;cases k with
  | never a=>exact .nil
  | most a n=>
   show (((List.range n).map λi=>(rN i,a,rN (i+1))).map λx=>(x.1,x.2.1)).Nodup;rw[xDb];refine xDt.mpr (xFh (λ{i j} hi hj hlt e=>?_) (List.pairwise_lt_range (n:=n)));have h1:=xCa.mp hi;have h2:=xCa.mp hj
   have:n<=6:=hk
   have:=aAi i (by omega) j (by omega) (Prod.mk.inj e).1
   omega
  | two w a b=>
   have hab:a≠b:=hk;show (((tpl w).map (dor a b)).map λx=>(x.1,x.2.1)).Nodup;rw[xDb];have h2:=(show ∀ w,((tpl w).map λt=>(t.1,t.2.1)).Nodup/\∀ t∈tpl w,t.1<2/\t.2.2<2 by decide) w;refine xDt.mpr (xFh (λ{t u} ht hu hne e=>?_) (xDt.mp h2.1));have e1:=aAi t.1 (by have:=h2.2 t ht; omega) u.1 (by have:=h2.2 u hu; omega) (Prod.mk.inj e).1;have e2:(if t.2.1=true then b else a)=if u.2.1=true then b else a:=(Prod.mk.inj e).2
   refine hne (Prod.ext e1 ?_);cases q1:t.2.1 <;> cases q2:u.2.1 <;> simp_all
 ·have:=gC (rs:=k.mw.rs) (N:=(List.range 8).map rN) λz hz=>by
   obtain⟨i,hi,e⟩:=r8 z hz;exact xAo.mpr ⟨i,xCa.mpr hi,e.symm⟩
  rwa [xAa,xCo] at this
 ·cases k with
  | never a=>exact⟨by show 1<=200; decide,by show 0<=800; decide,by show 1<=200; decide⟩
  | most a n=>
   have:n<=6:=hk
   simp only[RK.ends,RK.doors,RK.more,List.length_map,List.length_range,List.length_cons,List.length_nil];omega
  | two w a b=>
   refine⟨?_,?_,by show 0<=200; decide⟩
   ·simp only[RK.ends];split <;> decide
   ·simp only[RK.doors,List.length_map];exact (show ∀ w,(tpl w).length<=800 by decide) w
def Rl:Nat->Type
 | 0=>RK
 | n+1=>RK ⊕ List (Rl n)
def cG:(n:Nat)->Rl n->List Str
 | 0,k=>RK.about k
 | _+1,.inl k=>k.about
 | n+1,.inr l=>l.flatMap (cG n)
def fJ:(n:Nat)->Rl n->Nat
 | 0,_=>0
 | _+1,.inl _=>0
 | n+1,.inr l=>1+(l.map (fJ n)).foldl max 0
def WfR:(n:Nat)->Rl n->Prop
 | 0,k=>RK.Wf k
 | _+1,.inl k=>k.Wf
 | n+1,.inr l=>l.length<=4/\∀ r∈l,WfR n r
def qI:(n:Nat)->Rl n->Nat
 | 0,k=>RK.idx k
 | _+1,.inl k=>k.idx
 | _+1,.inr _=>6
def Ev (S:List Str):(n:Nat)->Rl n->Option MW->Prop
 | 0,k,o=>o=some (RK.mw k)
 | _+1,.inl k,o=>o=some k.mw
 | n+1,.inr l,o=>(l=[]/\o=some ⟨rN 0,[rN 0],[],[]⟩)\/(l≠[]/\o=none/\∃ r∈l,Ev S n r none) \/
   (l≠[]/\∃ ms,Paired (λr m=>Ev S n r (some m)) l ms/\((60<(cH ms S).length/\o=none)\/((cH ms S).length<=60/\∃ kn,(∀ z,z∈kn↔z∈wkn ms)/\o=some ⟨rN 0,lZ ms S,kn,fY ms S⟩)))
def wU (S:List Str):(n:Nat)->Rl n->Prop
 | 0,_=>True
 | _+1,.inl _=>True
 | n+1,.inr l=>∀ r∈l,wU S n r/\¬ Ev S n r none
inductive eK (Cs:Nat->Addr)(H:Hp)(x:Addr)(k:RK):Prop
 | mk (dx:Addr)(h:H x=some (.ins (Cs k.idx) dx k.flds))
def RAt (Cs:Nat->Addr)(H:Hp):(n:Nat)->Addr->Rl n->Prop
 | 0,x,k=>eK Cs H x k
 | _+1,x,.inl k=>eK Cs H x k
 | n+1,x,.inr l=>∃ dx p as,H x=some (.ins (Cs 6) dx [("rules",.ref p)])/\H p=some (.lst (as.map V.ref))/\Paired (RAt Cs H n) as l
def Rq:HO->Prop
 | .lst _=>True
 | .ins _ _ (_::_)=>True
 | _=>False
theorem eK.st {Cs:Nat->Addr}{H H':Hp}{x:Addr}{k:RK}(s:∀ b o,H b=some o->Rq o->H' b=some o)(h:eK Cs H x k):eK Cs H' x k:=by
 obtain⟨dx,h⟩:=h;exact⟨dx,s _ _ h (by cases k <;> trivial)⟩
theorem RAt.st {Cs:Nat->Addr}{H H':Hp}(s:∀ b o,H b=some o->Rq o->H' b=some o):∀ {n:Nat}{x:Addr}{r:Rl n},RAt Cs H n x r->RAt Cs H' n x r
 | 0,_,_,h=>eK.st s h
 | _+1,_,.inl _,h=>eK.st s h
 | n+1,_,.inr _,⟨dx,p,as,h1,h2,h3⟩=>⟨dx,p,as,s _ _ h1 trivial,s _ _ h2 trivial,L2.Paired.mapP h3 λ_ _ z=>RAt.st s z⟩
theorem RAt.nt {Cs:Nat->Addr}{H H':Hp}(s:NTb H H'){n:Nat}{x:Addr}{r:Rl n}(h:RAt Cs H n x r):RAt Cs H' n x r:=h.st λb o e q=>s b o e (by cases o <;> first | trivial | exact q)
theorem aM.nt {H H':Hp}(s:aM H H'):NTb H H':=λb o e _=>s b o e
abbrev xO:List Str:=["about","deep","machine"]
theorem oH (k:RK):∀ m∈xO,k.flds.lookup m=none:=by
 have h:∀ m∈xO,(m==("deed" : Str))=false/\(m==("many" : Str))=false/\(m==("one" : Str))=false/\(m==("other" : Str))=false:=by decide +kernel
 intro m hm;obtain⟨h1,h2,h3,h4⟩:=h m hm;cases k <;> simp only[RK.flds,List.lookup,h1,h2,h3,h4]
theorem pJ (p:Addr):∀ m∈xO,([("rules",.ref p)]:List (Str×V)).lookup m=none:=by
 have h:∀ m∈xO,(m==("rules" : Str))=false:=by decide +kernel
 intro m hm;simp only[List.lookup,h m hm]
theorem RAt.ins {Cs:Nat->Addr}{H:Hp}:∀ {n:Nat}{x:Addr}{r:Rl n},RAt Cs H n x r->∃ dx fl,H x=some (.ins (Cs (qI n r)) dx fl)/\∀ m∈xO,fl.lookup m=none
 | 0,_,k,⟨dx,h⟩=>⟨dx,_,h,oH k⟩
 | _+1,_,.inl k,⟨dx,h⟩=>⟨dx,_,h,oH k⟩
 | _+1,_,.inr _,⟨dx,p,_,h,_⟩=>⟨dx,_,h,pJ p⟩
theorem yX:∀ {n:Nat}(r:Rl n),qI n r<7
 | 0,.never _=>by show 0<7; decide
 | 0,.most _ _=>by show 1<7; decide
 | 0,.two w _ _=>by have:=w.2; show 2+w.1<7; omega
 | _+1,.inl (.never _)=>by show 0<7; decide
 | _+1,.inl (.most _ _)=>by show 1<7; decide
 | _+1,.inl (.two w _ _)=>by have:=w.2; show 2+w.1<7; omega
 | _+1,.inr _=>by show 6<7; decide
inductive aLn:(n:Nat)->Rl n->RK->Prop
 | zero (k:RK):aLn 0 k k
 | succ (n:Nat) (k:RK):aLn (n+1) (.inl k) k
theorem rZ:∀ {n:Nat}{r:Rl n},qI n r<6->∃ k,aLn n r k
 | 0,k,_=>⟨k,.zero k⟩
 | n+1,.inl k,_=>⟨k,.succ n k⟩
 | _+1,.inr _,h=>xAu h (by show ¬ 6<6; decide)
theorem aNo (k:RK):k.idx<6:=by
 cases k with
 | two w a b=>have:=w.2; show 2+w.1<6; omega
 | never a=>show 0<6; decide
 | most a n=>show 1<6; decide
theorem aBs:∀ {n:Nat}{r:Rl (n+1)},qI (n+1) r=6->∃ l,r=.inr l
 | _,.inl k,h=>xAu (show k.idx=6 from h) (xBd (aNo k))
 | _,.inr l,_=>⟨l,rfl⟩
theorem pQ:∀ {n:Nat}{r:Rl n},WfR n r->(cG n r).length<=2*4^n
 | 0,.never _,_=>by show 1<=2; decide
 | 0,.most _ _,_=>by show 1<=2; decide
 | 0,.two _ _ _,_=>by show 2<=2; decide
 | n+1,.inl k,_=>by
  have h:(k.about).length<=2:=by cases k <;> (first | (show 1<=2; decide) | (show 2<=2; decide))
  have:0<4^(n+1):=Nat.pow_pos (by decide)
  exact xAs h (by omega)
 | n+1,.inr l,h=>by
  have:=lA (k:=2*4^n) (l:=l) (f:=cG n) λr hr=>pQ (h.2 r hr)
  have h4:l.length<=4:=h.1;show (l.flatMap (cG n)).length<=_
  have:2*4^n*l.length<=2*4^n*4:=Nat.mul_le_mul_left _ h4
  rw[Nat.pow_succ];omega
end K34
namespace K34
open PySem L2 Ky PySem.W
seal L2.PE L2.PS L2.PSs L2.PA L2.PT L2.PW L2.PG L2.PI L2.PTs L2.PO L2.OpR L2.IxR L2.CallR L2.MtM L2.MtR
unseal L2.MtM L2.MtR
structure iS (K:xAb)(C:Addr):Prop where
 cl:Cls K C
 n1:dB K C "deed"
 n2:dB K C "many"
 n3:dB K C "one"
 n4:dB K C "other"
def isT:V->Bool
 | .int n=>decide (0<=n)&&decide (n<=6)
 | _=>false
inductive Tm:V->Prop
 | int (n:Int):Tm (.int n)
 | bl (b:Bool):Tm (.bl b)
 | non:Tm .non
 | str (z:Str):Tm (.str z)
inductive aCg (vs:List V)(H:Hp)(Q:VK)(E:XK):Prop
 | mk (v:V)(h0_:vs=[v])(h1_:Tm v)(h2_:Q (.bl (isT v)) H)
inductive xF (C:Addr)(vs:List V)(H:Hp)(Q:VK)(E:XK):Prop
 | mk (x dx:Addr)(a:Str)(h0_:vs=[.ref x,.str a])(h1_:H x=some (.ins C dx []))(h2_:∀ H',SameBut x H H'->H' x=some (.ins C dx [("deed",.str a)])->Q .non H')
inductive qM (C cN:Addr)(vs:List V)(H:Hp)(Q:VK)(E:XK):Prop
 | mk (x dx:Addr)(a:Str)(v:V)(h0_:vs=[.ref x,.str a,v])(hn:Tm v)(h1_:H x=some (.ins C dx []))(h2_:∀ n:Nat,v=.int n->n<=6->∀ H',SameBut x H H'->H' x=some (.ins C dx [("deed",.str a),("many",.int n)])->Q .non H')(h3_:isT v=false->E (.ref cN) none H)
inductive iG (K:xAb)(cN:Addr)(vs:List V)(H:Hp)(Q:VK)(E:XK):Prop
 | mk (x dx C:Addr)(a b:Str)(h0_:vs=[.ref x,.str a,.str b])(hC:iS K C)(h1_:H x=some (.ins C dx []))(h2_:a≠b->∀ H',SameBut x H H'->H' x=some (.ins C dx [("one",.str a),("other",.str b)])->Q .non H')(h3_:a=b->E (.ref cN) none H)
section
variable {P:Program}{w:World}{K:xAb}{mg:xSO}{base:Heap}
theorem aVb:aO ["thing"] ["thing"] (aA zW):=xfs
theorem aIt {f:Addr}{fd:FuncData}(F:Fun K "is_times" "is_times" zW f fd)(T:Txt K mg)(m6:∃ t,mg "MOST_TIMES" = some (.int 6 t)):aP P w K mg base CX0 1 f fd ["thing"] aCg:=by
 obtain⟨t6,m6⟩:=m6;refine F.ok aVb (λvs H Q E h=>?_) (λcdv A outer s H vs Q E hr h=>?_)
 ·obtain⟨v,rfl,_⟩:=h;rfl
 ·obtain⟨v,rfl,hv,q⟩:=h
  refine⟨_,aK (aQ (vZ (bV tE (by rfl) T.isi Bo.isinstance (pac (pv 0) (pac (qS (v:=.ty "int") (by rfl) T.int Bo.int rfl) aE)))
   (vZ (aQp (bV tE (by rfl) T.isi Bo.isinstance (pac (pv 0) (pac (qS (v:=.ty "bool") (by rfl) T.bool Bo.bool rfl) aE))))
   (vX (aIj aOy aOy aN (pv 0) (eQ (v:=.int 6) (by rfl) m6 ⟨_,rfl⟩)))))),?_⟩
  cases hv with
  | int n=>
   refine⟨_,rfl,.int n,.ty "int",.type "int",.type "int",true,rfl,jQ,jD.int n,rfl,_,rfl,iD ?_⟩;refine⟨_,rfl,.int n,.ty "bool",.type "bool",.type "int",false,rfl,jQ,jD.int n,rfl,_,rfl,_,rfl,iD ?_⟩;refine⟨_,rfl,_,_,rfl,rfl,_,rfl,?_⟩;have q:Q (.bl (decide (0<=n)&&decide (n<=6))) H:=q
   by_cases h:(0:Int)<=n
   ·rw[xAm h,xGr] at q;rw[xAz (xAm h)];exact⟨_,_,rfl,rfl,q⟩
   ·rw[xBc h,xEz] at q;rw[xAw (λz=>h (xAt z))];exact q
  | bl b=>exact⟨_,rfl,.bl b,.ty "int",.type "int",.type "bool",true,rfl,jQ,jD.bl b,rfl,_,rfl,iD ⟨_,rfl,.bl b,.ty "bool",.type "bool",.type "bool",true,rfl,jQ,jD.bl b,rfl,_,rfl,_,rfl,gF q⟩⟩
  | non=>exact⟨_,rfl,.non,.ty "int",.type "int",.type "NoneType",false,rfl,jQ,jD.non,rfl,_,rfl,gF q⟩
  | str z=>exact⟨_,rfl,.str z,.ty "int",.type "int",.type "str",false,rfl,jQ,jD.str z,rfl,_,rfl,gF q⟩
theorem aVh:aO ["self","deed"] ["self","deed"] (aA aKb):=xfs
theorem aJa {f C:Addr}{fd:FuncData}(F:Fun K "__init__" "Never.__init__" aKb f fd)(RC:iS K C):aP P w K mg base CX0 1 f fd ["self","deed"] (xF C):=by
 refine F.ok aVh (λvs H Q E h=>?_) (λcdv A outer s H vs Q E hr h=>?_)
 ·obtain⟨x,dx,a,rfl,_⟩:=h;rfl
 ·obtain⟨x,dx,a,rfl,hx,q⟩:=h;refine⟨_,aK (fX (pv 0) (pv 1) rfl),?_⟩;exact⟨_,rfl,_,rfl,x,C,dx,[],rfl,hx,RC.cl,RC.n1,by decide,q _ (λb o n e=>by rw[aH n]; exact e) aD⟩
theorem aSl:aO ["self","deed","many"] ["self","deed","many"] (aA aJw):=xfs
theorem aNj {v:V}(hv:Tm v)(h:isT v=true):∃ n:Nat,v=.int n/\n<=6:=by
 cases hv with
 | int n=>
  unfold isT at h;have h1:=xAt (xCk.mp h).1;have h2:=xAt (xCk.mp h).2;exact⟨n.toNat,by rw[Int.toNat_of_nonneg h1],by omega⟩
 | _=>cases h
theorem aIx {f fT C cN:Addr}{fd fdT:FuncData}(F:Fun K "__init__" "Most.__init__" aJw f fd)(RC:iS K C)(mN:mg "NoRule" = some (.ref cN))(xN:nF K cN)
  (GT:aP P w K mg base CX0 1 fT fdT ["thing"] aCg)(kT:keepIn K (.ref fT)=true)(bT:aS K fdT ["thing"] [])(mT:mg "is_times" = some (.ref fT)):aP P w K mg base (CXE P w) 2 f fd ["self","deed","many"] (qM C cN):=by
 refine okE F aSl (λvs H Q E h=>?_) (λcdv A outer s H vs Q E hr h D=>?_)
 ·obtain⟨x,dx,a,n,rfl,_⟩:=h;rfl
 ·obtain⟨x,dx,a,v,rfl,hv,hx,q,qe⟩:=h;refine⟨_,aJ (cM (gR (iJ (aR GT hr rfl mT kT bT .nil aY (pac (pv 2) aE)))) (aK (eG D rfl (by rfl) mN xN (pac aL aE))) aZ) (aJ (fX (pv 0) (pv 1) rfl) (aK (fX (pv 0) (pv 2) rfl))),?_⟩;refine⟨_,rfl,v,rfl,hv,_,rfl,?_⟩;cases hT:isT v with
  | false=>exact iD ⟨by show 1<=sizeLine; decide,qe hT⟩
  | true=>
   obtain⟨n,rfl,hn⟩:=aNj hv hT;refine gF ⟨_,rfl,_,rfl,x,C,dx,[],rfl,hx,RC.cl,RC.n1,by decide,?_⟩;exact⟨_,rfl,_,rfl,x,C,dx,_,rfl,aD,RC.cl,RC.n2,by show 1<1000; decide,q n rfl hn _ (λb o n e=>by rw[aH n,aH n]; exact e) aD⟩
theorem aSj:aO ["self","one","other"] ["self","one","other"] (aA aGu):=xfs
theorem aIu {f cN:Addr}{fd:FuncData}(F:Fun K "__init__" "OfTwo.__init__" aGu f fd)(mN:mg "NoRule" = some (.ref cN))(xN:nF K cN):aP P w K mg base (CXE P w) 1 f fd ["self","one","other"] (iG K cN):=by
 refine okE F aSj (λvs H Q E h=>?_) (λcdv A outer s H vs Q E hr h D=>?_)
 ·obtain⟨x,dx,C,a,b,rfl,_⟩:=h;rfl
 ·obtain⟨x,dx,C,a,b,rfl,RC,hx,q,qe⟩:=h;refine⟨_,aJ (cM (aX iX (pv 1) (pv 2) (bJ _)) (aK (eG D rfl (by rfl) mN xN (pac aL aE))) aZ) (aJ (fX (pv 0) (pv 1) rfl) (aK (fX (pv 0) (pv 2) rfl))),?_⟩;refine⟨_,rfl,_,rfl,rfl,_,rfl,gK (λz=>⟨by show 1<=sizeLine; decide,qe (V.str.inj (xAt z))⟩) λz=>?_⟩;refine⟨_,rfl,_,rfl,x,C,dx,[],rfl,hx,RC.cl,RC.n3,by decide,?_⟩;exact⟨_,rfl,_,rfl,x,C,dx,_,rfl,aD,RC.cl,RC.n4,by show 1<1000; decide,q (λe=>z (xAm (congrArg V.str e))) _ (λb o n e=>by rw[aH n,aH n]; exact e) aD⟩
structure aLm (P:Program)(w:World)(K:xAb)(mg:xSO)(base:Heap)(CT fT cN:Addr)(fdT:FuncData):Prop where
 m:mg "OfTwo"=some (.ref CT)
 s:specialIn K (.ref CT) "__getattribute__" = some (some (.builtin "type.__getattribute__"))
 r:readsIn K CT (.type "type")=true
 f:findCls K (.ref CT) (.type "type") "__init__" = some (.val (.ref fT))
 h:handedIn (.ref fT)=true
 k:keepIn K (.ref fT)=true
 G:aP P w K mg base (CXE P w) 1 fT fdT ["self","one","other"] (iG K cN)
 b:aS K fdT ["self","one","other"] []
theorem aSi:aO ["self","first","later"] ["self","first","later"] (aA aLk):=xfs
theorem aJs {f CT fT cN:Addr}{fd fdT:FuncData}(F:Fun K "__init__" "Ahead.__init__" aLk f fd)(W:aLm P w K mg base CT fT cN fdT):aP P w K mg base (CXE P w) 2 f fd ["self","first","later"] (iG K cN):=by
 refine okE F aSi (λvs H Q E h=>?_) (λcdv A outer s H vs Q E hr h D=>?_)
 ·obtain⟨x,dx,C,a,b,rfl,_⟩:=h;rfl
 ·exact⟨_,aK (cX (qQ (by rfl) W.m W.s W.r W.f W.h W.k W.G hr W.b (D.passes λ_ _ _ z=>z) (pac (pv 0) (pac (pv 1) (pac (pv 2) aE))))),by
   obtain⟨x,dx,C,a,b,rfl,RC,hx,q,qe⟩:=h;exact⟨_,rfl,_,rfl,_,rfl,x,dx,C,a,b,rfl,RC,hx,q,qe⟩⟩
theorem aSf:aO ["self","one","other"] ["self","one","other"] (aA aGr):=xfs
theorem aIs {f CT fT cN:Addr}{fd fdT:FuncData}(F:Fun K "__init__" "Turns.__init__" aGr f fd)(W:aLm P w K mg base CT fT cN fdT):aP P w K mg base (CXE P w) 2 f fd ["self","one","other"] (iG K cN):=by
 refine okE F aSf (λvs H Q E h=>?_) (λcdv A outer s H vs Q E hr h D=>?_)
 ·obtain⟨x,dx,C,a,b,rfl,_⟩:=h;rfl
 ·exact⟨_,aK (cX (qQ (by rfl) W.m W.s W.r W.f W.h W.k W.G hr W.b (D.passes λ_ _ _ z=>z) (pac (pv 0) (pac (pv 1) (pac (pv 2) aE))))),by
   obtain⟨x,dx,C,a,b,rfl,RC,hx,q,qe⟩:=h;exact⟨_,rfl,_,rfl,_,rfl,x,dx,C,a,b,rfl,RC,hx,q,qe⟩⟩
theorem aSh:aO ["self","deed","other"] ["self","deed","other"] (aA aKr):=xfs
theorem aJl {f CT fT cN:Addr}{fd fdT:FuncData}(F:Fun K "__init__" "Hold.__init__" aKr f fd)(W:aLm P w K mg base CT fT cN fdT):aP P w K mg base (CXE P w) 2 f fd ["self","deed","other"] (iG K cN):=by
 refine okE F aSh (λvs H Q E h=>?_) (λcdv A outer s H vs Q E hr h D=>?_)
 ·obtain⟨x,dx,C,a,b,rfl,_⟩:=h;rfl
 ·exact⟨_,aK (cX (qQ (by rfl) W.m W.s W.r W.f W.h W.k W.G hr W.b (D.passes λ_ _ _ z=>z) (pac (pv 0) (pac (pv 1) (pac (pv 2) aE))))),by
   obtain⟨x,dx,C,a,b,rfl,RC,hx,q,qe⟩:=h;exact⟨_,rfl,_,rfl,_,rfl,x,dx,C,a,b,rfl,RC,hx,q,qe⟩⟩
theorem aQa:aO ["self","deed","other"] ["self","deed","other"] (aA aBv):=xfs
theorem aFg {f CT fT cN:Addr}{fd fdT:FuncData}(F:Fun K "__init__" "Answer.__init__" aBv f fd)(W:aLm P w K mg base CT fT cN fdT):aP P w K mg base (CXE P w) 2 f fd ["self","deed","other"] (iG K cN):=by
 refine okE F aQa (λvs H Q E h=>?_) (λcdv A outer s H vs Q E hr h D=>?_)
 ·obtain⟨x,dx,C,a,b,rfl,_⟩:=h;rfl
 ·exact⟨_,aK (cX (qQ (by rfl) W.m W.s W.r W.f W.h W.k W.G hr W.b (D.passes λ_ _ _ z=>z) (pac (pv 0) (pac (pv 1) (pac (pv 2) aE))))),by
   obtain⟨x,dx,C,a,b,rfl,RC,hx,q,qe⟩:=h;exact⟨_,rfl,_,rfl,_,rfl,x,dx,C,a,b,rfl,RC,hx,q,qe⟩⟩
inductive jE (Cs:Nat->Addr)(i:Nat)(vs:List V)(H:Hp)(Q:VK)(E:XK):Prop
 | mk (x:Addr)(k:RK)(h0_:vs=[.ref x])(hi:k.idx=i)(h1_:eK Cs H x k)(h2_:∀ l,H l=none->Q (.ref l) (upd H l (.lst (k.about.map V.str))))
theorem aVi:aO ["self"] ["self"] (aA aBa):=xfs
theorem aEy {f:Addr}{fd:FuncData}{Cs:Nat->Addr}(F:Fun K "about" "Never.about" aBa f fd)(RC:iS K (Cs 0)):aP P w K mg base CX0 1 f fd ["self"] (jE Cs 0):=by
 refine F.ok aVi (λvs H Q E h=>?_) (λcdv A outer s H vs Q E hr h=>?_)
 ·obtain⟨x,k,rfl,_⟩:=h;rfl
 ·obtain⟨x,k,rfl,hi,⟨dx,hx⟩,q⟩:=h;refine⟨_,aK (aQ (aV (pac (bZ (pv 0) rfl) aE))),?_⟩;cases k with
  | never a=>exact⟨_,rfl,x,Cs 0,dx,_,.str a,rfl,hx,RC.cl,RC.n1,rfl,by show 1<=sizeLine; decide,λp hp=>q p hp⟩
  | most a n=>cases hi
  | two w a b=>exact xAu hi (by show ¬ 2+w.1=0; omega)
theorem aVg:aO ["self"] ["self"] (aA aAy):=xfs
theorem aEx {f:Addr}{fd:FuncData}{Cs:Nat->Addr}(F:Fun K "about" "Most.about" aAy f fd)(RC:iS K (Cs 1)):aP P w K mg base CX0 1 f fd ["self"] (jE Cs 1):=by
 refine F.ok aVg (λvs H Q E h=>?_) (λcdv A outer s H vs Q E hr h=>?_)
 ·obtain⟨x,k,rfl,_⟩:=h;rfl
 ·obtain⟨x,k,rfl,hi,⟨dx,hx⟩,q⟩:=h;refine⟨_,aK (aQ (aV (pac (bZ (pv 0) rfl) aE))),?_⟩;cases k with
  | most a n=>exact⟨_,rfl,x,Cs 1,dx,_,.str a,rfl,hx,RC.cl,RC.n1,rfl,by show 1<=sizeLine; decide,λp hp=>q p hp⟩
  | never a=>cases hi
  | two w a b=>exact xAu hi (by show ¬ 2+w.1=1; omega)
theorem aVc:aO ["self"] ["self"] (aA oT):=xfs
theorem aEt {f:Addr}{fd:FuncData}{Cs:Nat->Addr}(v:_root_.Fin 4)(F:Fun K "about" "OfTwo.about" oT f fd)(RC:iS K (Cs (2+v))):aP P w K mg base CX0 1 f fd ["self"] (jE Cs (2+v)):=by
 refine F.ok aVc (λvs H Q E h=>?_) (λcdv A outer s H vs Q E hr h=>?_)
 ·obtain⟨x,k,rfl,_⟩:=h;rfl
 ·obtain⟨x,k,rfl,hi,⟨dx,hx⟩,q⟩:=h;refine⟨_,aK (aQ (aV (pac (bZ (pv 0) rfl) (pac (bZ (pv 0) rfl) aE)))),?_⟩;rw[hi] at hx;cases k with
  | two w a b=>exact⟨_,rfl,x,_,dx,_,.str a,rfl,hx,RC.cl,RC.n3,rfl,_,rfl,x,_,dx,_,.str b,rfl,hx,RC.cl,RC.n4,rfl,by show 2<=sizeLine; decide,λp hp=>q p hp⟩
  | never a=>exact xAu hi (by show ¬ 0=2+v.1; omega)
  | most a n=>exact xAu hi (by show ¬ 1=2+v.1; omega)
inductive aCs (vs:List V)(H:Hp)(Q:VK)(E:XK):Prop
 | mk (x:Addr)(h0_:vs=[.ref x])(h1_:Q (.int 0) H)
theorem aVf:aO ["self"] ["self"] (aA pT):=xfs
theorem aIv {f:Addr}{fd:FuncData}(F:Fun K "deep" "Rule.deep" pT f fd):aP P w K mg base CX0 1 f fd ["self"] aCs:=by
 refine F.ok aVf (λvs H Q E h=>?_) (λcdv A outer s H vs Q E hr h=>?_)
 ·obtain⟨x,rfl,_⟩:=h;rfl
 ·obtain⟨x,rfl,q⟩:=h;exact⟨_,aK (aQ aN),q⟩
theorem iM {α β:Type}{F:α->β->Prop}:∀ {l₁:List α}{l₂:List β}{i:Nat}{a:α}{b:β},Paired F l₁ l₂->l₁[i]?=some a->l₂[i]?=some b->F a b
 | _,_,_,_,_,.nil,h,_=>by simp at h
 | _,_,0,_,_,.cons r _,h1,h2=>by cases h1; cases h2; exact r
 | _,_,_+1,_,_,.cons _ t,h1,h2=>iM t (by simpa using h1) (by simpa using h2)
theorem r0e:("r0" : Str)=rN 0/\("r1" : Str)=rN 1:=by decide +kernel
theorem sR (k:RK)(wk:List (Key×V)):((dO k.doors k.more).map V.str).all (cZ wk)=true↔(k.about.all λz=>cZ wk (.str z))=true:=by
 rw[xIm,xBn,xBn];exact⟨λh z hz=>h z ((gY k z).mpr hz),λh z hz=>h z ((gY k z).mp hz)⟩
inductive zO (C CM cD:Addr)(Cs:Nat->Addr)(i:Nat)(vs:List V)(H:Hp)(Q:VK)(E:XK):Prop
 | mk (x dd:Addr)(k:RK)(wk:List (Key×V))(h0_:vs=[.ref x,.ref dd])(hi:k.idx=i)(h1_:eK Cs H x k)(h2_:k.Wf)(h4_:dR k.about)(h5_:WAt C H dd wk)
  (h7_:¬ (k.about.all λz=>cZ wk (.str z))=true->∀ H',aM H H'->E (.ref cD) none H')
  (h6_:(k.about.all λz=>cZ wk (.str z))=true->∀ X H',aM H H'->MM CM H' X dd (rN 0) k.ends k.mw.kn k.doors->Q (.ref X) H')
def lit:Nat->Str
 | 0=>"r0"
 | _=>"r1"
def fld:Bool->Str
 | true=>"other"
 | false=>"one"
theorem aKh:∀ i:Nat,i<2->lit i=rN i
 | 0,_=>r0e.1
 | 1,_=>r0e.2
abbrev tDo (K:xAb)(t:Nat×Bool×Nat):TE:=aPq (iT (tC (.str (lit t.1))) (iT (aPs K (qE 0) (fld t.2.1)) (iT (tC (.str (lit t.2.2))) qF)))
def zN (K:xAb):List (Nat×Bool×Nat)->TA
 | []=>qF
 | d::l=>iT (tDo K d) (zN K l)
abbrev aUh (H:Hp)(t:Addr)(x:Dr):Prop:=H t=some (.tup [.str x.1,.str x.2.1,.str x.2.2])
theorem yO {C x dx:Addr}{a b:Str}(RC:iS K C):∀ (L:List (Nat×Bool×Nat)){σ:St}{H:Hp}{Q:List V->Hp->Prop},σ[0]?=some (some (.ref x))->H x=some (.ins C dx [("one",.str a),("other",.str b)])->(∀ t∈L,t.1<2/\t.2.2<2) ->
  (∀ ts H',aM H H'->Paired (aUh H') ts (L.map (dor a b))->Q (ts.map V.ref) H')->zN K L σ H Q
 | [],_,H,_,_,_,_,q=>q [] H (aM.refl H) .nil
 | (i,c,j)::L,σ,H,Q,h0,hx,hd,q=>by
  obtain⟨h1,h2⟩:=hd _ (.head _);refine⟨_,h0,x,C,dx,_,.str (if c=true then b else a),rfl,hx,RC.cl,by cases c <;> first | exact RC.n3 | exact RC.n4,by cases c <;> rfl,by show 3<=sizeLine; decide,λt ht=>yO RC L h0 (smu ht _ _ hx) (λd h=>hd d (.tail _ h)) λts H' s hp=>q (t::ts) H' ((smu ht).trans s) (.cons ?_ hp)⟩
  show H' t=some (.tup [.str (rN i),.str (if c=true then b else a),.str (rN j)])
  rw[<- aKh i h1,<- aKh j h2];exact s _ _ aD
theorem mkM {C CM X dX dd e d:Addr}{y:V}{k:RK}{cl:Why->Addr}{wk:List (Key×V)}{H H0:Hp}{Q:VK}{E:XK}(s0:aM H0 H)(hX:H X=none)(hdX:H dX=none)(hk:k.Wf)(hsh:dR k.about)(hW:WAt C H dd wk)
  (hE:H e=some (.lst (k.ends.map V.str)))(hD:eD H d k.doors)(hM:(y=.non/\k.more=[])\/∃ m,y=.ref m/\H m=some (.lst (k.more.map V.str)))
  (qe:¬ (k.about.all λz=>cZ wk (.str z))=true->∀ H',aM H0 H'->E (.ref (cl .noDeed)) none H')(q:(k.about.all λz=>cZ wk (.str z))=true->∀ X H',aM H0 H'->MM CM H' X dd (rN 0) k.ends k.mw.kn k.doors->Q (.ref X) H') :
  kJ K C CM cl [.ref X,.ref dd,.str "r0",.ref e,.ref d,y] (upd (upd H dX (.own X)) X (.ins CM dX [])) (λv H2=>v=.non/\Q (.ref X) H2) E:=by
 have k1:aM H (upd (upd H dX (.own X)) X (.ins CM dX [])):=λb o e=>by rw[aH (aI e hX),aH (aI e hdX)]; exact e
 have R:=rW k hk
 refine⟨X,dd,e,d,dX,rN 0,y,k.ends,k.more,k.doors,wk,by rw[r0e.1],aD,dS hW k1,k1 _ _ hE,hD.same k1,?_,R.le,R.nm,λz hz=>hsh z ((gY k z).mp hz),R.ap,by rw[wE]; exact xAs R.few (by decide),
  λz H' s=>qe (λy=>z ((sR k wk).mpr y)) H' (s0.trans (k1.trans s)),λz l e' kk kvs g H' sb M=>⟨rfl,q ((sR k wk).mp z) X H' (λb o e=>sb b o (aI (s0 _ _ e) hX) (k1 b o (s0 _ _ e))) ⟨dX,l,e',kk,kvs,g,M⟩⟩⟩
 rcases hM with h | ⟨m,h1,h2⟩
 ·exact .inl h
 ·exact .inr ⟨m,h1,k1 _ _ h2⟩
structure MkC (P:Program)(w:World)(K:xAb)(mg:xSO)(base:Heap)(C CM fMI:Addr)(cl:Why->Addr)(fdMI:FuncData):Prop where
 G:aP P w K mg base (CXE P w) 4 fMI fdMI ["self","deeds","begin","ends","doors","more"] (kJ K C CM cl)
 k:Mk K CM fMI
 m:mg "Machine"=some (.ref CM)
 b:aS K fdMI ["self","deeds","begin","ends","doors","more"] []
 b1:aS K fdMI ["self","deeds","begin","ends","doors","more"] [.none]
theorem aSg:aO ["self","deeds"] ["self","deeds"] (aA aKa):=xfs
theorem aIz {f fA fMI C CM:Addr}{fd fdA fdMI:FuncData}{cl:Why->Addr}{Cs:Nat->Addr}(F:Fun K "machine" "Never.machine" aKa f fd)(RC:iS K (Cs 0))(M:MkC P w K mg base C CM fMI cl fdMI)
  (GA:aP P w K mg base CX0 1 fA fdA ["self"] (jE Cs 0))(bA:aS K fdA ["self"] [])(mA:eI K (Cs 0) "about" fA):aP P w K mg base (CXE P w) 6 f fd ["self","deeds"] (zO C CM (cl .noDeed) Cs 0):=by
 refine okE F aSg (λvs H Q E h=>?_) (λcdv A outer s H vs Q E hr h D=>?_)
 ·obtain⟨x,dd,k,wk,rfl,_⟩:=h;rfl
 ·obtain⟨x,dd,k,wk,rfl,hi,⟨dx,hx⟩,hk,hsh,hW,qe,q⟩:=h;have hr1:bY 1 _:=hr.mono (by decide);refine⟨_,aK (aQ (cL M.k M.G hr rfl M.m M.b .nil (D.passes λ_ _ _ z=>z) (pac (pv 1) (pac aL (pac (aV (pac aL aE)) (pac (aV aE) (pac (dP (pv 0) RC.cl mA GA hr1 bA .nil aY) aE))))))),?_⟩;cases k with
  | never a=>
   refine⟨_,rfl,by show 1<=sizeLine; decide,λq1 hq1=>⟨by show 0<=sizeLine; decide,λq2 hq2=>⟨_,rfl,x,dx,_,rfl,smu hq2 _ _ (smu hq1 _ _ hx),oH (.never a) "about" (by decide),x,.never a,rfl,rfl,⟨dx,smu hq2 _ _ (smu hq1 _ _ hx)⟩,λl hl X dX hX hdX _=>?_⟩⟩⟩;have s3:=(smu (o:=.lst [.str "r0"]) hq1).trans ((smu (o:=.lst []) hq2).trans (smu (o:=.lst [.str a]) hl));refine mkM (k:=.never a) s3 hX hdX hk hsh (dS hW s3) ?_ ⟨[],smu hl _ _ aD,rfl,λi t x h=>nomatch h⟩ (.inr ⟨l,rfl,aD⟩) qe q;refine smu hl _ _ (smu hq2 _ _ ?_);show _=some (HO.lst [V.str (rN 0)]);rw[aD,r0e.1]
  | most a n=>cases hi
  | two w a b=>exact xAu hi (by show ¬ 2+w.1=0; omega)
theorem vE {k:RK}(v:_root_.Fin 4)(h:k.idx=2+v):∃ a b,k=.two v a b:=by
 cases k with
 | never a=>exact xAu h (by show ¬ 0=2+v.1; omega)
 | most a n=>exact xAu h (by show ¬ 1=2+v.1; omega)
 | two w a b=>exact⟨a,b,by rw[Fin.ext (show w.1=v.1 by have:2+w.1=2+v.1:=h; omega)]⟩
theorem qK {C CD CM x dx dd:Addr}{cl:Why->Addr}{a b:Str}{v:_root_.Fin 4}{es:List Str}{wk:List (Key×V)}{H:Hp}{Q:VK}{E:XK}{D:tL}(RC:iS K C)(hx:H x=some (.ins C dx [("one",.str a),("other",.str b)]))(hab:a≠b)(hsh:dR [a,b])(hW:WAt CD H dd wk)(hes:es=(RK.two v a b).ends)
  (qe:¬ ([a,b].all λz=>cZ wk (.str z))=true->∀ H',aM H H'->E (.ref (cl .noDeed)) none H')(q:([a,b].all λz=>cZ wk (.str z))=true->∀ X H',aM H H'->MM CM H' X dd (rN 0) (RK.two v a b).ends (RK.two v a b).mw.kn (RK.two v a b).doors->Q (.ref X) H')
  (nx:∀ d H1,(∀ e X dX,H1 e=none->(upd H1 e (.lst (es.map V.str))) X=none->(upd H1 e (.lst (es.map V.str))) dX=none->kJ K CD CM cl [.ref X,.ref dd,.str "r0",.ref e,.ref d,.non] (upd (upd (upd H1 e (.lst (es.map V.str))) dX (.own X)) X (.ins CM dX [])) (λv H2=>v=.non/\Q (.ref X) H2) E)->D.nx [some (.ref x),some (.ref dd),some (.ref d)] H1) :
  aLz (aEd (zN K (tpl v))) (jI 2) D [some (.ref x),some (.ref dd),none] H:=by
 refine yO RC (tpl v) rfl hx ((show ∀ v,∀ t∈tpl v,t.1<2/\t.2.2<2 by decide) v) λts H1 s1 hp=>⟨?_,λd hd0=>nx d _ λe X dX he hX hdX=>?_⟩
 ·have h1:=Paired.length hp;have h2:=(show ∀ v,(tpl v).length<=4 by decide) v;rw[xAa] at h1 ⊢;exact xAs (by omega) (show 4<=sizeLine by decide)
 ·have s2:aM H1 (upd H1 d (.lst (ts.map V.ref))):=smu hd0;have sd:(upd H1 d (.lst (ts.map V.ref))) d=some (.lst (ts.map V.ref)):=aD;generalize upd H1 d (.lst (ts.map V.ref))=H2 at s2 sd he hX hdX ⊢;have s3:=smu (o:=.lst (es.map V.str)) he;have s4:=s1.trans (s2.trans s3);exact mkM (k:=.two v a b) s4 hX hdX hab hsh (dS hW s4) (by rw[aD,hes]) ⟨ts,s3 _ _ sd,Paired.length hp,λi t x h1 h2=>s3 _ _ (s2 _ _ (iM (F:=aUh H1) hp h1 h2))⟩ (.inl ⟨rfl,rfl⟩) qe q
theorem aOq:aO ["self","deeds","doors"] ["self","deeds"] (aA aLj):=xfs
theorem aJr {f fMI C CM:Addr}{fd fdMI:FuncData}{cl:Why->Addr}{Cs:Nat->Addr}(F:Fun K "machine" "Ahead.machine" aLj f fd)(RC:iS K (Cs 2))(M:MkC P w K mg base C CM fMI cl fdMI):aP P w K mg base (CXE P w) 6 f fd ["self","deeds"] (zO C CM (cl .noDeed) Cs 2):=by
 refine okE F aOq (λvs H Q E h=>?_) (λcdv A outer s H vs Q E hr h D=>?_)
 ·obtain⟨x,dd,k,wk,rfl,_⟩:=h;rfl
 ·obtain⟨x,dd,k,wk,rfl,hi,⟨dx,hx⟩,hk,hsh,hW,qe,q⟩:=h
  refine⟨_,aJ (bO (i:=2) aOq.nd rfl (xBg rfl) (show PE _ _ (aEd (zN K (tpl 0))) from aV (pac (cU (pac aL (pac (bZ (pv 0) rfl) (pac aL aE)))) (pac (cU (pac aL (pac (bZ (pv 0) rfl) (pac aL aE)))) (pac (cU (pac aL (pac (bZ (pv 0) rfl) (pac aL aE)))) aE)))))
   (aK (aQ (cL (dvs:=[.non]) M.k M.G hr rfl M.m M.b1 (.cons rfl .nil) (D.passes λ_ _ _ z=>z) (pac (pv 1) (pac aL (pac (aV (pac aL (pac aL aE))) (pac (pv 2) aE))))))),?_⟩
  obtain⟨a,b,rfl⟩:=vE 0 hi;exact qK (es:=["r0","r1"]) RC hx hk hsh hW (by rw[r0e.1,r0e.2]; rfl) qe q λd H1 h=>⟨_,rfl,by show 2<=sizeLine; decide,λe he=>⟨_,rfl,λX dX hX hdX _=>h e X dX he hX hdX⟩⟩
theorem aOo:aO ["self","deeds","doors"] ["self","deeds"] (aA aGq):=xfs
theorem aIr {f fMI C CM:Addr}{fd fdMI:FuncData}{cl:Why->Addr}{Cs:Nat->Addr}(F:Fun K "machine" "Turns.machine" aGq f fd)(RC:iS K (Cs 3))(M:MkC P w K mg base C CM fMI cl fdMI):aP P w K mg base (CXE P w) 6 f fd ["self","deeds"] (zO C CM (cl .noDeed) Cs 3):=by
 refine okE F aOo (λvs H Q E h=>?_) (λcdv A outer s H vs Q E hr h D=>?_)
 ·obtain⟨x,dd,k,wk,rfl,_⟩:=h;rfl
 ·obtain⟨x,dd,k,wk,rfl,hi,⟨dx,hx⟩,hk,hsh,hW,qe,q⟩:=h
  refine⟨_,aJ (bO (i:=2) aOo.nd rfl (xBg rfl) (show PE _ _ (aEd (zN K (tpl 1))) from aV (pac (cU (pac aL (pac (bZ (pv 0) rfl) (pac aL aE)))) (pac (cU (pac aL (pac (bZ (pv 0) rfl) (pac aL aE)))) aE))))
   (aK (aQ (cL (dvs:=[.non]) M.k M.G hr rfl M.m M.b1 (.cons rfl .nil) (D.passes λ_ _ _ z=>z) (pac (pv 1) (pac aL (pac (aV (pac aL (pac aL aE))) (pac (pv 2) aE))))))),?_⟩
  obtain⟨a,b,rfl⟩:=vE 1 hi;exact qK (es:=["r0","r1"]) RC hx hk hsh hW (by rw[r0e.1,r0e.2]; rfl) qe q λd H1 h=>⟨_,rfl,by show 2<=sizeLine; decide,λe he=>⟨_,rfl,λX dX hX hdX _=>h e X dX he hX hdX⟩⟩
theorem aOp:aO ["self","deeds","doors"] ["self","deeds"] (aA aKq):=xfs
theorem aJk {f fMI C CM:Addr}{fd fdMI:FuncData}{cl:Why->Addr}{Cs:Nat->Addr}(F:Fun K "machine" "Hold.machine" aKq f fd)(RC:iS K (Cs 4))(M:MkC P w K mg base C CM fMI cl fdMI):aP P w K mg base (CXE P w) 6 f fd ["self","deeds"] (zO C CM (cl .noDeed) Cs 4):=by
 refine okE F aOp (λvs H Q E h=>?_) (λcdv A outer s H vs Q E hr h D=>?_)
 ·obtain⟨x,dd,k,wk,rfl,_⟩:=h;rfl
 ·obtain⟨x,dd,k,wk,rfl,hi,⟨dx,hx⟩,hk,hsh,hW,qe,q⟩:=h
  refine⟨_,aJ (bO (i:=2) aOp.nd rfl (xBg rfl) (show PE _ _ (aEd (zN K (tpl 2))) from aV (pac (cU (pac aL (pac (bZ (pv 0) rfl) (pac aL aE)))) (pac (cU (pac aL (pac (bZ (pv 0) rfl) (pac aL aE)))) (pac (cU (pac aL (pac (bZ (pv 0) rfl) (pac aL aE)))) aE)))))
   (aK (aQ (cL (dvs:=[.non]) M.k M.G hr rfl M.m M.b1 (.cons rfl .nil) (D.passes λ_ _ _ z=>z) (pac (pv 1) (pac aL (pac (aV (pac aL (pac aL aE))) (pac (pv 2) aE))))))),?_⟩
  obtain⟨a,b,rfl⟩:=vE 2 hi;exact qK (es:=["r0","r1"]) RC hx hk hsh hW (by rw[r0e.1,r0e.2]; rfl) qe q λd H1 h=>⟨_,rfl,by show 2<=sizeLine; decide,λe he=>⟨_,rfl,λX dX hX hdX _=>h e X dX he hX hdX⟩⟩
theorem aHh:aO ["self","deeds","doors"] ["self","deeds"] (aA aBu):=xfs
theorem aFf {f fMI C CM:Addr}{fd fdMI:FuncData}{cl:Why->Addr}{Cs:Nat->Addr}(F:Fun K "machine" "Answer.machine" aBu f fd)(RC:iS K (Cs 5))(M:MkC P w K mg base C CM fMI cl fdMI):aP P w K mg base (CXE P w) 6 f fd ["self","deeds"] (zO C CM (cl .noDeed) Cs 5):=by
 refine okE F aHh (λvs H Q E h=>?_) (λcdv A outer s H vs Q E hr h D=>?_)
 ·obtain⟨x,dd,k,wk,rfl,_⟩:=h;rfl
 ·obtain⟨x,dd,k,wk,rfl,hi,⟨dx,hx⟩,hk,hsh,hW,qe,q⟩:=h
  refine⟨_,aJ (bO (i:=2) aHh.nd rfl (xBg rfl) (show PE _ _ (aEd (zN K (tpl 3))) from aV (pac (cU (pac aL (pac (bZ (pv 0) rfl) (pac aL aE)))) (pac (cU (pac aL (pac (bZ (pv 0) rfl) (pac aL aE)))) (pac (cU (pac aL (pac (bZ (pv 0) rfl) (pac aL aE)))) (pac (cU (pac aL (pac (bZ (pv 0) rfl) (pac aL aE)))) aE))))))
   (aK (aQ (cL (dvs:=[.non]) M.k M.G hr rfl M.m M.b1 (.cons rfl .nil) (D.passes λ_ _ _ z=>z) (pac (pv 1) (pac aL (pac (aV (pac aL aE)) (pac (pv 2) aE))))))),?_⟩
  obtain⟨a,b,rfl⟩:=vE 3 hi;exact qK (es:=["r0"]) RC hx hk hsh hW (by rw[r0e.1]; rfl) qe q λd H1 h=>⟨_,rfl,by show 1<=sizeLine; decide,λe he=>⟨_,rfl,λX dX hX hdX _=>h e X dX he hX hdX⟩⟩
theorem aHx (m:Nat):(((List.range m).map rN).map V.str).length=m:=by rw[xAa,xAa,xCo]
theorem atR {m i:Nat}(h:i<m){j:Int}(hj:j=i):atI (((List.range m).map rN).map V.str) j=some (.str (rN i)):=by
 have:=gL V.str ((List.range m).map rN) "" (i:=(i:Int)) (by omega) (by rw[xAa,xCo]; omega)
 rw[hj,this,xBv,xCv,xAj,List.getElem?_range h];rfl
abbrev NoM:List Str:=["self","deeds","rooms","doors"]
theorem aHg:aO NoM ["self","deeds"] (aA xZ):=xfs
abbrev nd5:List Str:=["times"]
abbrev nd6:List Str:=["times","rooms","self"]
theorem aIw {f fA fMI C CM:Addr}{fd fdA fdMI:FuncData}{cl:Why->Addr}{Cs:Nat->Addr}(F:Fun K "machine" "Most.machine" xZ f fd)(T:Txt K mg)(RC:iS K (Cs 1))(M:MkC P w K mg base C CM fMI cl fdMI)
  (GA:aP P w K mg base CX0 1 fA fdA ["self"] (jE Cs 1))(bA:aS K fdA ["self"] [])(mA:eI K (Cs 1) "about" fA):aP P w K mg base (CXE P w) 6 f fd ["self","deeds"] (zO C CM (cl .noDeed) Cs 1):=by
 refine okE F aHg (λvs H Q E h=>?_) (λcdv A outer s H vs Q E hr h D=>?_)
 ·obtain⟨x,dd,k,wk,rfl,_⟩:=h;rfl
 ·obtain⟨x,dd,k,wk,rfl,hi,⟨dx,hx⟩,hk,hsh,hW,qe,q⟩:=h;have hr1:bY 1 _:=hr.mono (by decide)
  refine⟨_,aJ (bO (i:=2) aHg.nd rfl (xHo rfl) (gI (N':=nd5) (nown:=1) (js:=[]) rfl xbs (dF (aA xZ) NoM rfl rfl (by decide +kernel))
    ⟨λ_ _ _ _=>aW (i:=0) (show List.Nodup nd5 by decide +kernel) rfl (xBg rfl) (.inr rfl),λ_ _ _ _=>fS,λ_ _ _ _=>xU aL (vY (pv 0))⟩
    (lP rfl T.range (pac (bX iN (bZ (pv 0) rfl) aN) aE))))
   (aJ (jR (i:=3) (N':=nd6) (nown:=1) (js:=[2,0]) rfl aHg.nd rfl rfl rfl xbs (dF (aA xZ) NoM rfl rfl (by decide +kernel))
    ⟨λ_ _ _ _=>aW (i:=0) (show List.Nodup nd6 by decide +kernel) rfl (xBg rfl) (.inr rfl),λ_ _ _ _=>fS,
     λ_ _ _ _=>cU (pac (cQ (show IxR _ (aMj K) from dD) (pv 1) (pv 0) (λ_ _=>rfl)) (pac (show PE _ _ (aPs K (qE 2) "deed") from bZ (pv 2) rfl) (pac (cQ (show IxR _ (aMj K) from dD) (pv 1) (bX iN (pv 0) aN) (λ_ _=>rfl)) aE)))⟩
    (lP rfl T.range (pac (bZ (pv 0) rfl) aE)))
   (aK (aQ (cL M.k M.G hr rfl M.m M.b .nil (D.passes λ_ _ _ z=>z) (pac (pv 1) (pac aL (pac (pv 2) (pac (pv 3) (pac (dP (pv 0) RC.cl mA GA hr1 bA .nil aY) aE))))))))),?_⟩
  cases k with
  | most a n=>
   have hn:n<=6:=hk;refine⟨_,rfl,x,Cs 1,dx,_,.int n,rfl,hx,RC.cl,RC.n2,rfl,_,_,rfl,rfl,((n+1:Nat):Int),rfl,by omega,by omega,λD hD=>pP (n:=n+1) (lo:=0) (λi σ' H'=>∃ v,σ'=[v]/\H' D=some (.lst (((List.range i).map rN).map V.str))/\aM H H') ?_ ?_ ?_⟩
   ·exact⟨none,rfl,aD,smu hD⟩
   ·rintro i σ' H' hi' ⟨v,rfl,h1,h2⟩;have hl:=(aCy i (by omega)).2;refine⟨_,rfl,by decide +kernel,_,rfl,(0+(i:Int)),rfl,by rw[xIo]; exact uR i (by omega),?_⟩;rw[xIo];refine⟨_,rfl,jN (xAs hl (by decide)),jN (xAs hl (by decide)),_,h1,bS (by rw[aHx]; omega),_,rfl,?_,λb o e=>?_⟩
    ·rw[aD,xEp,xAx,xAx];rfl
    ·rw[aH (aI e hD)];exact h2 _ _ e
   rintro σ' H1 ⟨v,rfl,h1,s1⟩;have hx1:=s1 _ _ hx;refine⟨_,rfl,x,Cs 1,dx,_,.int n,rfl,hx1,RC.cl,RC.n2,rfl,(n:Int),rfl,by omega,by omega,λD2 hD2=>pP (n:=n) (lo:=0) (λi σ' H'=>∃ v,σ'=[v,some (.ref D),some (.ref x)]/\eD H' D2 ((List.range i).map λi=>(rN i,a,rN (i+1)))/\SameBut D2 H1 H') ?_ ?_ ?_⟩
   ·exact⟨none,rfl,⟨[],aD,rfl,λi t x h=>nomatch h⟩,λb o n e=>by rw[aH n]; exact e⟩
   ·rintro i σ' H' hi' ⟨v,rfl,hd,kp⟩;have hxD:x≠D2:=aI hx1 hD2;have hDD:D≠D2:=aI h1 hD2;refine⟨_,rfl,_,rfl,D,_,_,.str (rN i),rfl,rfl,SqL.of (kp _ _ hDD h1),atR (by omega) (by omega),_,rfl,x,Cs 1,dx,_,.str a,rfl,kp _ _ hxD hx1,RC.cl,RC.n1,rfl,_,rfl,_,rfl,_,_,rfl,rfl,D,_,_,.str (rN (i+1)),rfl,rfl,SqL.of (kp _ _ hDD h1),atR (by omega) (by omega),by show 3<=sizeLine; decide,λt ht=>?_⟩;obtain⟨xs,x0,x1,xd⟩:=hd.push ht (rN i,a,rN (i+1));rw[xAa,xCo] at x1;refine⟨_,smu ht _ _ x0,bS (by omega),_,rfl,?_,λb o n e=>?_⟩
    ·rw[xEp,xAx];exact xd
    ·rw[aH n];exact smu ht _ _ (kp b o n e)
   rintro σ' H2 ⟨v,rfl,hd,kp⟩;have s12:aM H H2:=λb o e=>kp b o (λz=>by rw[z] at e; rw[s1 _ _ e] at hD2; cases hD2) (s1 _ _ e);refine⟨_,rfl,_,rfl,_,rfl,_,rfl,x,dx,_,rfl,s12 _ _ hx,oH (.most a n) "about" (by decide),x,.most a n,rfl,rfl,⟨dx,s12 _ _ hx⟩,λl hl X dX hX hdX _=>?_⟩;have s3:=s12.trans (smu (o:=.lst [.str a]) hl);exact mkM (k:=.most a n) s3 hX hdX hk hsh (dS hW s3) (smu hl _ _ (kp _ _ (aI h1 hD2) h1)) (hd.same (smu hl)) (.inr ⟨l,rfl,aD⟩) qe q
  | never a=>cases hi
  | two w a b=>exact xAu hi (by show ¬ 2+w.1=1; omega)
theorem aP.more {P:Program}{w:World}{K:xAb}{mg:xSO}{base:Heap}{CX:CXT}{k k':Nat}{f:Addr}{fd:FuncData}{ps:List Str}{sp:Sp}(G:aP P w K mg base CX k f fd ps sp)(h:k<=k'):aP P w K mg base CX k' f fd ps sp:=
 ⟨G.len,λA outer s H args us vs Q E hr=>G.run A outer s H args us vs Q E (hr.mono h)⟩
theorem aP.none {P:Program}{w:World}{K:xAb}{mg:xSO}{base:Heap}{CX:CXT}{k:Nat}{f:Addr}{fd:FuncData}{ps:List Str}{sp:Sp}(h:∀ vs H Q E,¬ sp vs H Q E):aP P w K mg base CX k f fd ps sp:=
 ⟨λvs H Q E z=>(h _ _ _ _ z).elim,λA outer s H args us vs Q E _ _ _ _ z=>(h _ _ _ _ z).elim⟩
structure Fam (K:xAb)(Cs:Nat->Addr)(m:Str)(ps:List Str)(fs:_root_.Fin 7->Addr)(fds:_root_.Fin 7->FuncData):Prop where
 c:∀ i:_root_.Fin 7,Cls K (Cs i)
 m:∀ i:_root_.Fin 7,eI K (Cs i) m (fs i)
 b:∀ i,aS K (fds i) ps []
inductive aEf (Cs:Nat->Addr)(n i:Nat)(vs:List V)(H:Hp)(Q:VK)(E:XK):Prop
 | mk (x:Addr)(r:Rl n)(h0_:vs=[.ref x])(h1_:qI n r=i)(h2_:RAt Cs H n x r)(h3_:WfR n r)(h4_:n<=4)(h5_:∀ l H',aM H H'->H l=none->H' l=some (.lst ((cG n r).map V.str))->Q (.ref l) H')
inductive aEe (Cs:Nat->Addr)(n i:Nat)(vs:List V)(H:Hp)(Q:VK)(E:XK):Prop
 | mk (x:Addr)(r:Rl n)(h0_:vs=[.ref x])(h1_:qI n r=i)(h2_:RAt Cs H n x r)(h3_:WfR n r)(h5_:∀ H',aM H H'->Q (.int (fJ n r:Nat)) H')
inductive vJ (Cs:Nat->Addr)(cT:Addr)(n:Nat)(vs:List V)(H:Hp)(Q:VK)(E:XK):Prop
 | mk (x dx p:Addr)(as:List Addr)(l:List (Rl n))(h0_:vs=[.ref x,.ref p])(h1_:H x=some (.ins (Cs 6) dx []))(h2_:H p=some (.lst (as.map V.ref)))(h3_:Paired (RAt Cs H n) as l)(h4_:∀ r∈l,WfR n r)
  (h5_:4<l.length\/3<fJ (n+1) (.inr l)->∀ H',SameBut x H H'->E (.ref cT) none H')
  (h6_:l.length<=4->fJ (n+1) (.inr l)<=3->∀ p' H',SameBut x H H'->H' x=some (.ins (Cs 6) dx [("rules",.ref p')])->H' p'=some (.lst (as.map V.ref))->Q .non H')
theorem RAt.same {Cs:Nat->Addr}{H H':Hp}(s:aM H H'){n:Nat}{x:Addr}{r:Rl n}(h:RAt Cs H n x r):RAt Cs H' n x r:=h.nt (aM.nt s)
section
variable {P:Program}{w:World}{K:xAb}{mg:xSO}{base:Heap}{Cs:Nat->Addr}{fs:_root_.Fin 7->Addr}{fds:_root_.Fin 7->FuncData}{n:Nat}
abbrev NLA:List Str:=["self","deeds","rule"]
theorem aQd:aO NLA ["self"] (aA wG):=xfs
theorem aFd (F:Fun K "about" "All.about" wG (fs 6) (fds 6))(na:dB K (Cs 6) "rules")(M:Fam K Cs "about" ["self"] fs fds)(G:∀ i,aP P w K mg base CX0 (1+n) (fs i) (fds i) ["self"] (aEf Cs n i)):aP P w K mg base CX0 (1+(n+1)) (fs 6) (fds 6) ["self"] (aEf Cs (n+1) 6):=by
 refine F.ok aQd (λvs H Q E h=>?_) (λcdv A outer s H vs Q E hr h=>?_)
 ·obtain⟨x,r,rfl,_⟩:=h;rfl
 ·obtain⟨x,r,rfl,hc,hR,hwf,hn,q⟩:=h;obtain⟨l,rfl⟩:=aBs hc;obtain⟨dx,p,as,hx,hp,hP⟩:=hR
  refine⟨_,aJ (bO (i:=1) aQd.nd rfl (xBg rfl) (aV aE)) (aJ (eV PassesOwn.never rfl (dC (bZ (pv 0) rfl)) (aW (i:=2) aQd.nd rfl (xBg rfl))
    (aK (cX (kU xBq xEa xDz lQ (pv 1) (pac (uL (Cs:=λi:_root_.Fin 7=>Cs i) (sps:=λi:_root_.Fin 7=>aEf Cs n i) (pv 2) M.c M.m G hr M.b aY) aE)))))
   (aK (aQ (pv 1)))),?_⟩
  refine⟨by show 0<=sizeLine; decide,λD hD=>⟨_,rfl,x,_,dx,_,.ref p,rfl,smu hD _ _ hx,M.c 6,na,rfl,p,rfl,⟨_,SqL.of (smu hD _ _ hp)⟩,?_⟩⟩;refine dY (xs:=as.map V.ref) (λi σ H'=>∃ u,σ=[some (.ref x),some (.ref D),u]/\H' D=some (.lst (((l.take i).flatMap (cG n)).map V.str))/\aM H H') ?_ ?_ ?_ ?_
  ·exact⟨none,rfl,aD,smu hD⟩
  ·rintro i σ H' _ ⟨u,rfl,h1,h2⟩;exact SqL.of (h2 _ _ hp)
  ·rintro i v σ H' hv ⟨u,rfl,h1,h2⟩;rw[xAj] at hv;cases ha:as[i]? with
   | none=>rw[ha] at hv; cases hv
   | some a=>
    rw[ha] at hv;cases hv;have hi:i<l.length:=by rw[<- Paired.length hP]; exact (xAd.mp ha).1
    have hr':=xAi hi;have hm:=xCl hi;generalize l[i]=r at hr' hm;have R:=(iM (F:=RAt Cs H n) hP ha hr').same h2;obtain⟨dy,fl,hy,hl⟩:=R.ins;refine⟨_,rfl,.inl ⟨rfl,_,SqL.of h1⟩,_,rfl,⟨qI n r,yX r⟩,a,dy,fl,rfl,hy,hl "about" (by decide),a,r,rfl,rfl,R,hwf.2 r hm,by omega,λl2 H2 s2 n2 e2=>?_⟩;have pre:=lA (k:=2*4^n) (l:=l.take i) (f:=cG n) λr hr=>pQ (hwf.2 r (xGb hr));have one:=pQ (hwf.2 r hm);have h4:l.length<=4:=hwf.1;have pw:4^n<=4^3:=Nat.pow_le_pow_right (by decide) (by omega);rw[xBb] at pre
    have:2*4^n*min i l.length<=2*4^n*4:=Nat.mul_le_mul_left _ (by omega)
    refine⟨D,l2,_,_,rfl,rfl,s2 _ _ h1,e2,jN (by rw[xAa,xAa]; omega),_,rfl,?_,λb o e=>?_⟩
    ·rw[aD,xBo,hr',List.flatMap_append,xAx]
     simp
    ·rw[aH (aI e hD)];exact s2 _ _ (h2 _ _ e)
  rintro σ H' ⟨u,rfl,h1,h2⟩;rw[xAa,Paired.length hP,xBa] at h1;exact⟨_,rfl,q D H' h2 hD h1⟩
theorem aRp (G:∀ i:_root_.Fin 7,i.1<6->aP P w K mg base CX0 1 (fs i) (fds i) ["self"] (jE Cs i))(F:Fun K "about" "All.about" wG (fs 6) (fds 6))(na:dB K (Cs 6) "rules")(M:Fam K Cs "about" ["self"] fs fds):∀ (n:Nat) (i:_root_.Fin 7),aP P w K mg base CX0 (1+n) (fs i) (fds i) ["self"] (aEf Cs n i):=by
 have pl:∀ (n:Nat) (i:_root_.Fin 7),i.1<6->aP P w K mg base CX0 (1+n) (fs i) (fds i) ["self"] (aEf Cs n i):=λn i hi=>aP.weaker (aP.more (G i hi) (xDv _ _)) λvs H Q E ⟨x,r,e,hc,hR,_,_,q⟩=>by
  obtain⟨k,hp⟩:=rZ (r:=r) (by rw[hc]; exact hi);cases hp <;> exact⟨x,k,e,hc,hR,λl hl=>q l _ (smu hl) hl aD⟩
 intro n
 induction n with
 | zero=>
  intro i
  by_cases hi:i.1<6
  ·exact pl 0 i hi
  ·exact aP.none λvs H Q E ⟨x,r,_,hc,_,_,_,_⟩=>hi (by rw[<- hc]; exact aNo r)
 | succ n ih=>
  intro i
  by_cases hi:i.1<6
  ·exact pl _ i hi
  ·obtain rfl:i=6:=Fin.ext (by have:=i.2; show i.1=6; omega);exact aFd F na M ih
theorem aVr:aO ["self"] ["self"] (aA yK):=xfs
abbrev ndl:List Str:=["rule"]
theorem aJi (F:Fun K "deep" "All.deep" yK (fs 6) (fds 6))(na:dB K (Cs 6) "rules")(mM:mg "max" = none)(M:Fam K Cs "deep" ["self"] fs fds)(G:∀ i,aP P w K mg base CX0 (1+n) (fs i) (fds i) ["self"] (aEe Cs n i)):aP P w K mg base CX0 (1+(n+1)) (fs 6) (fds 6) ["self"] (aEe Cs (n+1) 6):=by
 refine F.ok aVr (λvs H Q E h=>?_) (λcdv A outer s H vs Q E hr h=>?_)
 ·obtain⟨x,r,rfl,_⟩:=h;rfl
 ·obtain⟨x,r,rfl,hc,hR,hwf,q⟩:=h;obtain⟨l,rfl⟩:=aBs hc;obtain⟨dx,p,as,hx,hp,hP⟩:=hR
  refine⟨_,aK (aQ (bX iN aN (aMp rfl (by rfl) mM (gI (N':=ndl) (nown:=1) (js:=[]) rfl xbs (dF (aA yK) ["self"] rfl rfl (by decide +kernel))
    ⟨λ_ _ _ _=>aW (i:=0) (show List.Nodup ndl by decide +kernel) rfl (xBg rfl) (.inr rfl),λ_ _ _ _=>fS,λ_ _ _ _=>uL (Cs:=λi:_root_.Fin 7=>Cs i) (sps:=λi:_root_.Fin 7=>aEe Cs n i) (pv 0) M.c M.m G hr M.b aY⟩
    (dC (bZ (pv 0) rfl)))))),?_⟩
  refine⟨_,rfl,x,_,dx,_,.ref p,rfl,hx,M.c 6,na,rfl,p,rfl,⟨_,SqL.of hp⟩,λD hD=>iP (xs:=as.map V.ref) (λi σ' H'=>∃ u,σ'=[u]/\H' D=some (.lst (((l.take i).map (fJ n)).map λ(m:Nat)=>V.int (m:Int)))/\aM H H') ?_ ?_ ?_ ?_⟩
  ·exact⟨none,rfl,aD,smu hD⟩
  ·rintro i σ H' _ ⟨u,rfl,h1,h2⟩;exact SqL.of (h2 _ _ hp)
  ·rintro i v σ H' hv ⟨u,rfl,h1,h2⟩;rw[xAj] at hv;cases ha:as[i]? with
   | none=>rw[ha] at hv; cases hv
   | some a=>
    rw[ha] at hv;cases hv;have hi:i<l.length:=by rw[<- Paired.length hP]; exact (xAd.mp ha).1
    have hr':=xAi hi;have hm:=xCl hi;generalize l[i]=r at hr' hm;have R:=(iM (F:=RAt Cs H n) hP ha hr').same h2;obtain⟨dy,fl,hy,hl⟩:=R.ins;have h4:l.length<=4:=hwf.1;refine⟨_,rfl,⟨qI n r,yX r⟩,a,dy,fl,rfl,hy,hl "deep" (by decide),a,r,rfl,rfl,R,hwf.2 r hm,λH2 s2=>⟨_,s2 _ _ h1,bS (by rw[xAa,xAa,xBb]; omega),_,rfl,?_,λb o e=>?_⟩⟩
    ·rw[aD,xBo,hr',xAx,xAx];rfl
    ·rw[aH (aI e hD)];exact s2 _ _ (h2 _ _ e)
  rintro σ H' ⟨u,rfl,h1,h2⟩;rw[xAa,Paired.length hP,xBa] at h1;refine⟨D,_,rfl,SqL.of h1,_,_,rfl,rfl,?_⟩
  have:=q H' h2
  rw[show ((fJ (n+1) (.inr l):Nat):Int)=1+(((l.map (fJ n)).foldl max 0:Nat):Int) from by show ((1+_:Nat):Int)=_; omega] at this
  exact this
theorem aTm (G:∀ i:_root_.Fin 7,i.1<6->aP P w K mg base CX0 1 (fs i) (fds i) ["self"] aCs)(F:Fun K "deep" "All.deep" yK (fs 6) (fds 6))(na:dB K (Cs 6) "rules")(mM:mg "max" = none)(M:Fam K Cs "deep" ["self"] fs fds):∀ (n:Nat) (i:_root_.Fin 7),aP P w K mg base CX0 (1+n) (fs i) (fds i) ["self"] (aEe Cs n i):=by
 have pl:∀ (n:Nat) (i:_root_.Fin 7),i.1<6->aP P w K mg base CX0 (1+n) (fs i) (fds i) ["self"] (aEe Cs n i):=λn i hi=>aP.weaker (aP.more (G i hi) (xDv _ _)) λvs H Q E ⟨x,r,e,hc,hR,_,q⟩=>by
  obtain⟨k,hp⟩:=rZ (r:=r) (by rw[hc]; exact hi);cases hp <;> exact⟨x,e,q H (aM.refl H)⟩
 intro n
 induction n with
 | zero=>
  intro i
  by_cases hi:i.1<6
  ·exact pl 0 i hi
  ·exact aP.none λvs H Q E ⟨x,r,_,hc,_,_,_⟩=>hi (by rw[<- hc]; exact aNo r)
 | succ n ih=>
  intro i
  by_cases hi:i.1<6
  ·exact pl _ i hi
  ·obtain rfl:i=6:=Fin.ext (by have:=i.2; show i.1=6; omega);exact aJi F na mM M ih
theorem aVq:aO ["self","rules"] ["self","rules"] (aA aKl):=xfs
theorem aJh {f cT:Addr}{fd:FuncData}(F:Fun K "__init__" "All.__init__" aKl f fd)(T:Txt K mg)(na:dB K (Cs 6) "rules")(m4:∃ t,mg "MOST_RULES" = some (.int 4 t))(m3:∃ t,mg "MOST_DEEP" = some (.int 3 t))(mTM:mg "TooMany" = some (.ref cT))(xTM:nF K cT)
  (M:Fam K Cs "deep" ["self"] fs fds)(G:∀ (n:Nat) (i:_root_.Fin 7),aP P w K mg base CX0 (1+n) (fs i) (fds i) ["self"] (aEe Cs n i))(n:Nat):aP P w K mg base (CXE P w) (3+n) f fd ["self","rules"] (vJ Cs cT n):=by
 obtain⟨t4,m4⟩:=m4;obtain⟨t3,m3⟩:=m3;rw[show 3+n=(1+(n+1))+1 by omega];refine okE F aVq (λvs H Q E h=>?_) (λcdv A outer s H vs Q E hr h D=>?_)
 ·obtain⟨x,dx,p,as,l,rfl,_⟩:=h;rfl
 ·obtain⟨x,dx,p,as,l,rfl,hx,hp,hP,hwf,qe,q⟩:=h
  refine⟨_,aJ (cM (aX pV (bV cE (by rfl) T.len Bo.len (pac (pv 1) aE)) (eQ (v:=.int 4) (by rfl) m4 ⟨_,rfl⟩) (bJ _)) (aK (eG D rfl (by rfl) mTM xTM (pac aL aE))) aZ)
   (aJ (fX (pv 0) (jF oK (by rfl) T.list Bo.list (pac (pv 1) aE)) rfl)
   (aK (cM (aX pV (dP (pv 0) (M.c 6) (M.m 6) (G (n+1) 6) hr (M.b 6) .nil aY) (eQ (v:=.int 3) (by rfl) m3 ⟨_,rfl⟩) (bJ _)) (aK (eG D rfl (by rfl) mTM xTM (pac aL aE))) aZ))),?_⟩
  have ll:(as.map V.ref).length=l.length:=by rw[xAa]; exact Paired.length hP
  refine⟨_,rfl,p,_,rfl,.inl (SqL.of hp),_,_,rfl,rfl,_,rfl,gK (λz=>⟨by show 1<=sizeLine; decide,qe (.inl (by have:=xAt z; rw[ll] at this; omega)) H λb o _ e=>e⟩) λz=>?_⟩
  have h4:l.length<=4:=by
   rw[ll] at z
   have:¬ ((l.length:Int)>4):=λy=>z (xAm y)
   omega
  refine⟨_,rfl,p,_,rfl,.inl (SqL.of hp),λp' hp'=>⟨_,rfl,x,_,dx,[],rfl,smu hp' _ _ hx,M.c 6,na,by decide,?_⟩⟩;have nx:p'≠x:=λz=>by rw[z,hx] at hp'; cases hp'
  have sb:SameBut x H (upd (upd H p' (.lst (as.map V.ref))) x (.ins (Cs 6) dx (eY "rules" (.ref p') []))):=λb o n e=>by rw[aH n]; exact smu hp' _ _ e
  have ex:(upd (upd H p' (.lst (as.map V.ref))) x (.ins (Cs 6) dx (eY "rules" (.ref p') []))) x=some (.ins (Cs 6) dx [("rules",.ref p')]):=aD;have ep:(upd (upd H p' (.lst (as.map V.ref))) x (.ins (Cs 6) dx (eY "rules" (.ref p') []))) p'=some (.lst (as.map V.ref)):=by rw[aH nx,aD]
  generalize upd (upd H p' (.lst (as.map V.ref))) x (.ins (Cs 6) dx (eY "rules" (.ref p') []))=H2 at sb ex ep ⊢;have R2:RAt Cs H2 (n+1) x (.inr l):=⟨dx,p',as,ex,ep,L2.Paired.mapP hP λa r h=>h.st λb o e hq=>sb b o (λz=>by rw[z,hx] at e; cases e; exact hq) e⟩;refine⟨_,rfl,x,dx,_,rfl,ex,pJ p' "deep" (by decide),x,.inr l,rfl,rfl,R2,⟨h4,hwf⟩,λH3 s3=>⟨_,_,rfl,rfl,_,rfl,gK (λz=>⟨by show 1<=sizeLine; decide,qe (.inr (by have:=xAt z; omega)) H3 λb o n e=>s3 _ _ (sb b o n e)⟩) λz=>?_⟩⟩;exact q h4 (by have:¬ ((fJ (n+1) (.inr l):Int)>3):=λy=>z (xAm y); omega) p' H3 (λb o n e=>s3 _ _ (sb b o n e)) (s3 _ _ ex) (s3 _ _ ep)
end
theorem Paired.snoc {α β:Type}{F:α->β->Prop}:∀ {l₁:List α}{l₂:List β}{a:α}{b:β},Paired F l₁ l₂->F a b->Paired F (l₁++[a]) (l₂++[b])
 | _,_,_,_,.nil,h=>.cons h .nil
 | _,_,_,_,.cons r t,h=>.cons r (Paired.snoc t h)
structure SOk (S:List Str):Prop where
 le:S.length<=12
 so:xBt S=true
 nd:S.Nodup
 gd:∀ z:Str,cZ (wts S 1 []) (.str z)=true↔z∈S
inductive iH (C CM cD cT Pr:Addr)(Cs:Nat->Addr)(n i:Nat)(vs:List V)(H:Hp)(Q:VK)(E:XK):Prop
 | mk (x dd:Addr)(r:Rl n)(S:List Str)(h0_:vs=[.ref x,.ref dd])(h1_:qI n r=i)(h2_:RAt Cs H n x r)(h3_:WfR n r)(h4_:n<=4)(h5_:dR (cG n r))(h6_:WAt C H dd (wts S 1 []))(h7_:SOk S)(h8_:Tab dI dH Pr H)(h9_:(∀ z∈cG n r,z∈S)->wU S n r)
  (h10_:(¬ ∀ z∈cG n r,z∈S)->∀ H',aM (off H Pr) H'->Tab dI dH Pr H'->E (.ref cD) none H')
  (h11_:(∀ z∈cG n r,z∈S)->∀ X m H',Ev S n r (some m)->aM (off H Pr) H'->Tab dI dH Pr H'->MM CM H' X dd m.b m.es m.kn m.ds->Q (.ref X) H')
  (h12_:(∀ z∈cG n r,z∈S)->Ev S n r none->∀ H',aM (off H Pr) H'->Tab dI dH Pr H'->E (.ref cT) none H')
theorem jV {H H':Hp}{P:Addr}(s:aM H H'):aM (off H P) H':=λb o e=>s b o (cS e).2
theorem aDp {S:List Str}:∀ {n:Nat}{r:Rl n}{m:MW},WfR n r->(∀ z∈cG n r,z∈S)->Ev S n r (some m)->MOk S m
 | 0,k,m,hw,ha,e=>by
  cases e;have R:=rW k hw;exact⟨R.nm,λz hz=>ha z ((gY k z).mp hz),xAs R.few (by decide)⟩
 | n+1,.inl k,m,hw,ha,e=>by
  cases e;have R:=rW k hw;exact⟨R.nm,λz hz=>ha z ((gY k z).mp hz),xAs R.few (by decide)⟩
 | n+1,.inr l,m,hw,ha,e=>by
  rcases e with⟨_,e⟩ | ⟨_,e,_⟩ | ⟨_,ms,hp,⟨_,e⟩ | ⟨hle,kn,hk,e⟩⟩
  ·cases e;exact⟨by decide +kernel,λz hz=>(nomatch hz),by decide +kernel⟩
  ·cases e
  ·cases e
  ·cases e;refine⟨nY hle,λz hz=>?_,by rw[<- wE]; exact sJ hle⟩;obtain⟨m,hm,hz⟩:=xBl.mp ((hk z).mp hz);obtain⟨i,hi⟩:=xGe hm;have hl:i<l.length:=by rw[Paired.length hp]; exact (xAd.mp hi).1
   have hr:=xCl hl;exact (aDp (hw.2 _ hr) (λz hz=>ha z (xBl.mpr ⟨_,hr,hz⟩)) (iM (F:=λr m=>Ev S n r (some m)) hp (xAi hl) hi)).kn z hz
section
variable {P:Program}{w:World}{K:xAb}{mg:xSO}{base:Heap}{Cs:Nat->Addr}{fs:_root_.Fin 7->Addr}{fds:_root_.Fin 7->FuncData}{n:Nat}{C CM CW cT Pr fMI:Addr}{fdMI:FuncData}{cl:Why->Addr}
theorem aVp:aO ["self","deeds"] ["self","deeds"] (aA aDi):=xfs
abbrev ndm:List Str:=["rule","deeds"]
theorem aJg {fA:_root_.Fin 7->Addr}{fdA:_root_.Fin 7->FuncData}{fQ fWI fMO:Addr}{fdQ fdWI fdMO:FuncData}(F:Fun K "machine" "All.machine" aDi (fs 6) (fds 6))(DC:zE K C)(na:dB K (Cs 6) "rules")(MC:MkC P w K mg base C CM fMI cl fdMI)
  (Ma:Fam K Cs "about" ["self"] fA fdA)(GA:∀ (n:Nat) (i:_root_.Fin 7),aP P w K mg base CX0 (1+n) (fA i) (fdA i) ["self"] (aEf Cs n i))
  (GQ:aP P w K mg base (CXE P w) 3 fQ fdQ ["self","row"] (iE K C cl))(bQ:aS K fdQ ["self","row"] [])(mQ:eI K C "require" fQ)
  (GWI:aP P w K mg base (CXE P w) 3 fWI fdWI ["self","machines"] (vG CM CW cT))(WMk:Mk K CW fWI)(mWo:mg "Woven" = some (.ref CW))(bWI:aS K fdWI ["self","machines"] [])
  (GMO:aP P w K mg base (CXE P w) 11 fMO fdMO ["woven"] (aHa C CM CW cT Pr))(kMO:keepIn K (.ref fMO)=true)(bMO:aS K fdMO ["woven"] [])(mMO:mg "made_one" = some (.ref fMO))
  (M:Fam K Cs "machine" ["self","deeds"] fs fds)(G:∀ i,aP P w K mg base (CXE P w) (11+n) (fs i) (fds i) ["self","deeds"] (iH C CM (cl .noDeed) cT Pr Cs n i)) :
  aP P w K mg base (CXE P w) (11+(n+1)) (fs 6) (fds 6) ["self","deeds"] (iH C CM (cl .noDeed) cT Pr Cs (n+1) 6):=by
 rw[show 11+(n+1)=(11+n)+1 from rfl]
 refine okE F aVp (λvs H Q E h=>?_) (λcdv A outer s H vs Q E hr h D=>?_)
 ·obtain⟨x,dd,r,S,rfl,_⟩:=h;rfl
 ·obtain⟨x,dd,r,S,rfl,hc,hR,hwf,hn,hsh,hW,SO,TB,hF,qd,q,qt⟩:=h;obtain⟨l,rfl⟩:=aBs hc;obtain⟨dx,p,as,hx,hp,hP⟩:=id hR;have hr3:bY 3 _:=hr.mono (by omega);have hr4:bY (3+1) _:=hr.mono (by omega);have hr5:bY (4+1) _:=hr.mono (by omega);have hr11:bY 11 _:=hr.mono (by omega);have hrA:bY (1+(n+1)) _:=hr.mono (by omega)
  refine⟨_,aJ (cX (dQ (pv 1) DC.cl mQ GQ hr3 bQ .nil (D.passes λ_ _ _ z=>z) (pac (dP (pv 0) (Ma.c 6) (Ma.m 6) (GA (n+1) 6) hrA (Ma.b 6) .nil aY) aE)))
   (aJ (cM (gR (rY (bZ (pv 0) rfl) (λ_=>rfl))) (aK (aQ (cL (dvs:=[.non]) MC.k MC.G hr5 rfl MC.m MC.b1 (.cons rfl .nil) (D.passes λ_ _ _ z=>z) (pac (pv 1) (pac aL (pac (aV (pac aL aE)) (pac (aV aE) aE))))))) aZ)
   (aK (aQ (aR GMO hr11 rfl mMO kMO bMO .nil (D.passes λ_ _ _ z=>z) (pac (cL WMk GWI hr4 rfl mWo bWI .nil (D.passes λ_ _ _ z=>z) (pac (gI (N':=ndm) (nown:=1) (js:=[1]) rfl xbs (dF (aA aDi) ["self","deeds"] rfl rfl (by decide +kernel))
     ⟨λ_ _ _ _=>aW (i:=0) (show List.Nodup ndm by decide +kernel) rfl (xBg rfl) (.inr rfl),λ_ _ _ _=>fS,λ_ _ _ _=>xS (Cs:=λi:_root_.Fin 7=>Cs i) (sps:=λi:_root_.Fin 7=>iH C CM (cl .noDeed) cT Pr Cs n i) (pv 0) M.c M.m G hr M.b gJ (pac (pv 1) aE)⟩
     (dC (bZ (pv 0) rfl))) aE)) aE))))),?_⟩
  obtain⟨wx,wf,ww,wo,hw0,hw1,hw2,hw3⟩:=id hW;refine⟨_,rfl,dd,wx,wf,rfl,hw0,hw1 "require" (by decide),_,rfl,x,dx,_,rfl,hx,pJ p "about" (by decide),x,.inr l,rfl,rfl,hR,hwf,hn,λla H1 s1 n1 e1=>?_⟩;refine⟨dd,la,_,_,rfl,SqL.of e1,lO hsh,dS hW s1,λH2 s2=>?_⟩;have s12:=s1.trans s2;have T2:=TB.same s12
  by_cases hg:∀ z∈cG (n+1) (.inr l),z∈S
  rotate_left
  ·rw[xAw λz=>hg λy hy=>(SO.gd y).mp (xBn.mp z _ (xAo.mpr ⟨y,hy,rfl⟩))];exact qd hg H2 (jV s12) T2
  rw[xAz (xBn.mpr λv hv=>by
   obtain⟨y,hy,rfl⟩:=xAo.mp hv;exact (SO.gd y).mpr (hg y hy))]
  have hx2:=s12 _ _ hx;have hp2:=s12 _ _ hp;have hW2:=dS hW s12;have q:=q hg;have qt:=qt hg;have hF:∀ r∈l,wU S n r/\¬ Ev S n r none:=hF hg;refine⟨_,rfl,x,_,dx,_,.ref p,rfl,hx2,M.c 6,na,rfl,!(as.map V.ref).isEmpty,.inl ⟨_,SqL.of hp2,rfl⟩,?_⟩;cases l with
  | nil=>
   cases hP;refine iD ⟨_,rfl,by show 1<=sizeLine; decide,λe he=>⟨by show 0<=sizeLine; decide,λd hd X dX hX hdX _=>?_⟩⟩;have s3:=(smu (o:=.lst [.str "r0"]) he).trans (smu (o:=.lst []) hd);have ee:=smu (o:=.lst []) hd _ _ (show (upd H2 e (.lst [.str "r0"])) e=_ from aD)
   have ed:(upd (upd H2 e (.lst [.str "r0"])) d (.lst [])) d=some (.lst []):=aD;generalize upd (upd H2 e (.lst [.str "r0"])) d (.lst [])=H3 at s3 ee ed hX hdX ⊢;have k1:aM H3 (upd (upd H3 dX (.own X)) X (.ins CM dX [])):=λb o e=>by rw[aH (aI e hX),aH (aI e hdX)]; exact e
   refine⟨X,dd,e,d,dX,rN 0,.non,[rN 0],[],[],_,by rw[r0e.1]; rfl,aD,dS hW2 (s3.trans k1),by rw[<- r0e.1]; exact k1 _ _ ee,⟨[],k1 _ _ ed,rfl,λi t x h=>nomatch h⟩,.inl ⟨rfl,rfl⟩,by decide,by decide +kernel,λz hz=>(nomatch hz),xFg,by decide +kernel,λz=>xAu rfl z,λ_ lM eM kM kvs g H4 sb M4=>⟨rfl,?_⟩⟩;have s4:aM H H4:=λb o e=>sb b o (aI (s3 _ _ (s12 _ _ e)) hX) (k1 _ _ (s3 _ _ (s12 _ _ e)));exact q X ⟨rN 0,[rN 0],[],[]⟩ H4 (.inl ⟨rfl,rfl⟩) (jV s4) (TB.same s4) ⟨dX,lM,eM,kM,kvs,g,M4⟩
  | cons r0 l0=>
   generalize hl:r0::l0=l at *;have hne:l≠[]:=by rw[<- hl]; exact List.cons_ne_nil _ _
   have hea:(as.map V.ref).isEmpty=false:=by
    cases as with
    | nil=>exact xAu (Paired.length hP) (by rw[<- hl]; simp)
    | cons _ _=>rfl
   rw[hea];have h4:l.length<=4:=hwf.1;refine gF ⟨_,rfl,x,_,dx,_,.ref p,rfl,hx2,M.c 6,na,rfl,p,rfl,⟨_,SqL.of hp2⟩,λB hB=>iP (xs:=as.map V.ref) (λi σ' H'=>∃ (u:Option V) (Xs:List Addr) (ms:List MW),σ'=[u,some (.ref dd)]/\H' B=some (.lst (Xs.map V.ref))/\Paired (λr m=>Ev S n r (some m)) (l.take i) ms/\Xs.length=ms.length/\(∀ (j:Nat) X m,Xs[j]?=some X->ms[j]?=some m->MM CM H' X dd m.b m.es m.kn m.ds)/\aM (off H2 Pr) H'/\Tab dI dH Pr H') ?_ ?_ ?_ ?_⟩
   ·exact⟨none,[],[],rfl,aD,.nil,rfl,(λj X m z=>nomatch z),jV (smu hB),T2.same (smu hB)⟩
   ·rintro i σ H' _ ⟨u,Xs,ms,rfl,a1,a2,a3,a4,a5,a6⟩;exact SqL.of (eU T2.tb a5 _ _ hp2 trivial)
   ·rintro i v σ H' hv ⟨u,Xs,ms,rfl,a1,a2,a3,a4,a5,a6⟩;rw[xAj] at hv;cases ha:as[i]? with
    | none=>rw[ha] at hv; cases hv
    | some a=>
     rw[ha] at hv;cases hv;have hi:i<l.length:=by rw[<- Paired.length hP]; exact (xAd.mp ha).1
     have hr':=xAi hi;have hm:=xCl hi;generalize l[i]=r at hr' hm;have nt:=eU T2.tb a5;have R:=((iM (F:=RAt Cs H n) hP ha hr').same s12).nt nt;have hga:∀ z∈cG n r,z∈S:=λz hz=>hg z (xBl.mpr ⟨r,hm,hz⟩);obtain⟨dy,fl,hy,hfl⟩:=R.ins;refine⟨_,rfl,⟨qI n r,yX r⟩,a,dy,fl,rfl,hy,hfl "machine" (by decide),_,rfl,a,dd,r,S,rfl,rfl,R,hwf.2 r hm,by omega,λz hz=>hsh z (xBl.mpr ⟨r,hm,hz⟩),ntW nt hW2,SO,a6,λ_=>(hF r hm).1,λz=>xAu hga z,λ_ X m H3 ev s3 T3 M3=>?_,λ_ ev=>xAu ev (hF r hm).2⟩;have nt3:=eU a6.tb s3;have b1:=nt3 _ _ a1 trivial;have ml:ms.length=i:=by have:=Paired.length a2; rw[xBb] at this; omega
     have s23:aM (off H2 Pr) H3:=λb o e=>s3 _ _ (gS (cS e).1 (a5 _ _ e));refine⟨_,b1,bS (by rw[xAa,a3,ml]; omega),some (.ref a),Xs++[X],ms++[m],rfl,by rw[aD,xAx]; rfl,?_,by rw[xAn,xAn,a3]; rfl,λj Y m' hY hm'=>?_,λb o e=>?_,?_⟩
     ·rw[xBo,hr'];exact Paired.snoc a2 ev
     ·have nl:NLs H3 (upd H3 B (.lst (Xs.map V.ref++[.ref X]))):=aDf b1
      by_cases hj:j<Xs.length
      ·rw[xBw hj] at hY;rw[xBw (by rw[<- a3]; exact hj)] at hm';exact aKd (ntM nt3 (a4 j Y m' hY hm')) nl
      ·have hl':j=Xs.length:=by
        have:=(xAd.mp hY).1
        rw[xAn] at this;simp only[List.length_cons,List.length_nil] at this;omega
       subst hl';rw[xCb (xAh _),xEx] at hY;rw[xCb (by rw[a3]; exact xAh _),a3,xEx] at hm';cases hY;cases hm';exact aKd M3 nl
     ·rw[aH (λz=>by rw[z] at e; rw[(cS e).2] at hB; cases hB)];exact s23 _ _ e
     ·have nB:∀ {c o},H3 c=some o->(∀ xs,o≠.lst xs)->(upd H3 B (.lst (Xs.map V.ref++[.ref X]))) c=some o:=λ{c o} e n=>by rw[aH (λz=>by rw[z,b1] at e; exact n _ (xBj e).symm)]; exact e
      exact T3.elim (λh=>.inl (nB h (λ_ z=>nomatch z))) λ⟨c',h1,h2⟩=>.inr ⟨c',nB h1 (λ_ z=>nomatch z),nB h2 (λ_ z=>nomatch z)⟩
   rintro σ H3 ⟨u,Xs,ms,rfl,a1,a2,a3,a4,a5,a6⟩;rw[xAa,Paired.length hP,xBa] at a2;have hml:ms.length=l.length:=(Paired.length a2).symm;have hl1:1<=l.length:=List.length_pos_iff.mpr hne
   have mok:∀ m∈ms,MOk S m:=λm hm=>by
    obtain⟨i,hi⟩:=xGe hm;have hl:i<l.length:=by rw[<- hml]; exact (xAd.mp hi).1
    have hr:=xCl hl;exact aDp (hwf.2 _ hr) (λz hz=>hg z (xBl.mpr ⟨_,hr,hz⟩)) (iM (F:=λr m=>Ev S n r (some m)) a2 (xAi hl) hi)
   have hkS:∀ z∈wkn ms,z∈S:=λz hz=>by
    obtain⟨m,hm,hz⟩:=xBl.mp hz;exact (mok m hm).kn z hz
   have hW3:=ntW (eU T2.tb a5) hW2;intro v dv hv hdv _;have k1:aM H3 (upd (upd H3 dv (.own v)) v (.ins CW dv [])):=λb o e=>by rw[aH (aI e hv),aH (aI e hdv)]; exact e
   refine .mk v dv dd B ms S rfl aD (lX.same ⟨Xs,a1,a3,a4⟩ k1) ⟨by omega,by omega⟩ (λm hm=>(mok m hm).kn) (by have:=SO.le; omega) λH4 sb W4 _=>⟨rfl,?_⟩;have s34:aM H3 H4:=λb o e=>sb b o (aI e hv) (k1 _ _ e);have T4:=a6.same s34;have o4:aM (off H Pr) H4:=λb o e=>s34 _ _ (a5 _ _ (gS (cS e).1 (s12 _ _ (cS e).2)));refine⟨v,dd,ms,S,_,rfl,W4,⟨by omega,by omega⟩,λm hm=>(mok m hm).nm,dS hW3 s34,hkS,SO.le,λz hz=>(SO.gd z).mpr hz,SO.so,SO.nd,T4,λhle X kn H5 s5 T5 hk M5=>?_,λhgt H5 s5 T5=>?_⟩
   ·exact q X ⟨rN 0,lZ ms S,kn,fY ms S⟩ H5 (.inr (.inr ⟨hne,ms,a2,.inr ⟨hle,kn,hk,rfl⟩⟩)) (λb o e=>s5 _ _ (gS (cS e).1 (o4 _ _ e))) T5 M5
   ·exact qt (.inr (.inr ⟨hne,ms,a2,.inl ⟨hgt,rfl⟩⟩)) H5 (λb o e=>s5 _ _ (gS (cS e).1 (o4 _ _ e))) T5
end
theorem aCv:aO ["self","row","room","deed"] ["self","row"] (aA wF):=xfs
theorem tV (ds:List Dr)(kn:List Str):∀ (rw:List Str) (i:Nat) (b z y:Str),walk ds kn b (rw.take i)=some z->rw[i]?=some y->walk ds kn b (rw.take (i+1))=gZ ds kn z y
 | [],i,b,z,y,h,e=>by cases e
 | u::r,0,b,z,y,h,e=>by
  cases e;cases h;show (match gZ ds kn b u with | none=>none | some z'=>some z')=_
  cases gZ ds kn b u <;> rfl
 | u::r,i+1,b,z,y,h,e=>by
  rw[xGi] at h ⊢;unfold walk at h ⊢;cases q:gZ ds kn b u with
  | none=>rw[q] at h; cases h
  | some z'=>
   rw[q] at h;exact tV ds kn r i z' z y h e
theorem tU (ds:List Dr)(kn:List Str):∀ (rw:List Str) (i:Nat) (b:Str),walk ds kn b (rw.take i)=none->walk ds kn b rw=none
 | [],i,b,h=>by rw[List.take_nil] at h; exact h
 | u::r,0,b,h=>by cases h
 | u::r,i+1,b,h=>by
  rw[xGi] at h;unfold walk at h ⊢;cases q:gZ ds kn b u with
  | none=>rfl
  | some z'=>
   rw[q] at h;exact tU ds kn r i z' h
theorem aAr {f fG fQ C CM:Addr}{fd fdG fdQ:FuncData}{cl:Why->Addr}(F:Fun K "behind" "Machine.behind" wF f fd)(T:Txt K mg)(DC:zE K C)(MC:nA K CM)
  (GG:aP P w K mg base CX0 1 fG fdG ["self","room","deed"] (vI CM))(bG:aS K fdG ["self","room","deed"] [])(mG:eI K CM "goes" fG)
  (GQ:aP P w K mg base (CXE P w) 3 fQ fdQ ["self","row"] (iE K C cl))(bQ:aS K fdQ ["self","row"] [])(mQ:eI K C "require" fQ):aP P w K mg base (CXE P w) 4 f fd ["self","row"] (uE K C CM cl):=by
 refine okE F aCv (λvs H Q E h=>?_) (λcdv A outer s H vs Q E hr h D=>?_)
 ·obtain⟨x,dd,a,b,es,kn,rw',ds,wk,rfl,_⟩:=h;rfl
 ·obtain⟨x,dd,a,b,es,kn,rw',ds,wk,rfl,⟨dx,l,e,k,kvs,g,M⟩,⟨wx,wf,ww,wo,hw0,hw1,hw2,hw3⟩,hS,hsh,hnm,q⟩:=h;have hr1:bY 1 _:=hr.mono (by decide)
  refine⟨_,aJ (cX (dQ (bZ (pv 0) rfl) DC.cl mQ GQ hr bQ .nil (D.passes λ_ _ _ z=>z) (pac (pv 1) aE)))
   (aJ (bO (i:=2) aCv.nd rfl (xBg rfl) (bZ (pv 0) rfl))
   (aJ (eV PassesOwn.leaving rfl (dC (pv 1)) (aW (i:=3) aCv.nd rfl (xBg rfl))
    (aJ (bO (i:=2) aCv.nd rfl (xBg rfl) (dQ (pv 0) MC.cl mG GG hr1 bG .nil aY (pac (pv 2) (pac (pv 3) aE))))
    (aK (cM (aX aIn (pv 2) jB (bJ _)) (aK (aQ jB)) aZ))))
   (aK (aQ (pv 2))))),?_⟩
  refine⟨_,rfl,x,CM,dx,_,_,rfl,M.ins,MC.cl,MC.nd,by rfl,dd,wx,wf,rfl,hw0,hw1 "require" (by decide),_,rfl,dd,a,_,wk,rfl,hS,lO hsh,⟨wx,wf,ww,wo,hw0,hw1,hw2,hw3⟩,λH2 s2=>?_⟩;have q2:=λH' (s:aM H2 H')=>q H' (s2.trans s)
  by_cases hall:(rw'.map V.str).all (cZ wk)=true
  ·simp only[if_pos hall] at q2 ⊢;have M2:=M.same s2;refine⟨_,rfl,x,CM,dx,_,_,rfl,M2.ins,MC.cl,MC.nf,by rfl,_,rfl,a,rfl,⟨_,s2.seq hS⟩,?_⟩;refine dY (xs:=rw'.map V.str) (λi σ H'=>∃ z x3,σ=[some (.ref x),some (.ref a),some (.str z),x3]/\walk ds kn b (rw'.take i)=some z/\z∈cJ b es ds/\H'=H2) ?_ ?_ ?_ ?_
   ·exact⟨b,none,rfl,rfl,xBm ..,rfl⟩
   ·rintro i σ H' _ ⟨z,x3,rfl,h1,h2,rfl⟩;exact s2.seq hS
   ·rintro i v σ H' hv ⟨z,x3,rfl,h1,h2,rfl⟩;rw[xAj] at hv;cases hy:rw'[i]? with
    | none=>rw[hy] at hv; cases hv
    | some y=>
     rw[hy] at hv;cases hv;have h3:=tV ds kn rw' i b z y h1 hy;refine⟨_,rfl,x,dx,_,rfl,M2.ins,gD _ _ _ _ _ _ (by decide),_,rfl,_,rfl,x,dd,b,z,y,es,kn,ds,rfl,⟨dx,l,e,k,kvs,g,M2⟩,h2,?_⟩;cases hg:gZ ds kn z y with
     | none=>
      refine⟨_,rfl,rfl,_,rfl,iD ?_⟩
      have:=q2 H' (aM.refl H')
      rw[tU ds kn rw' (i+1) b (h3.trans hg)] at this;exact this
     | some u=>
      refine⟨_,rfl,rfl,_,rfl,gF ?_⟩;exact⟨u,some (.str y),rfl,h3.trans hg,yP h2 hg,rfl⟩
   ·rintro σ H' ⟨z,x3,rfl,h1,h2,rfl⟩;rw[xAa,xBa] at h1
    have:=q2 H' (aM.refl H')
    rw[h1] at this;exact⟨_,rfl,this⟩
  ·simp only[if_neg hall] at q2 ⊢;exact q2 H2 (aM.refl H2)
inductive aCn (K:xAb)(C CM cD cT Pr:Addr)(Cs:Nat->Addr)(n:Nat)(vs:List V)(H:Hp)(Q:VK)(E:XK):Prop
 | mk (x dd rr:Addr)(r:Rl n)(S row:List Str)(h0_:vs=[.ref x,.ref dd,.ref rr])(h2_:RAt Cs H n x r)(h3_:WfR n r)(h4_:n<=4)(h5_:dR (cG n r))(h6_:WAt C H dd (wts S 1 []))(h7_:SOk S)(h8_:Tab dI dH Pr H)(h9_:(∀ z∈cG n r,z∈S)->wU S n r)
  (ha_:H rr=some (.lst (row.map V.str)))(hb_:dR row)
  (h10_:((¬ ∀ z∈cG n r,z∈S)\/¬ ∀ z∈row,z∈S)->∀ H',aM (off H Pr) H'->Tab dI dH Pr H'->E (.ref cD) none H')
  (h11_:(∀ z∈cG n r,z∈S)->(∀ z∈row,z∈S)->∀ b m H',Ev S n r (some m)->aM (off H Pr) H'->Tab dI dH Pr H'->Q (.bl b) H')
  (h12_:(∀ z∈cG n r,z∈S)->Ev S n r none->∀ H',aM (off H Pr) H'->Tab dI dH Pr H'->E (.ref cT) none H')
section
variable {P:Program}{w:World}{K:xAb}{mg:xSO}{base:Heap}{Cs:Nat->Addr}{fs:_root_.Fin 7->Addr}{fds:_root_.Fin 7->FuncData}{C CM CW cT Pr fMI:Addr}{fdMI:FuncData}{cl:Why->Addr}
theorem aSz (Gp:∀ i:_root_.Fin 7,i.1<6->aP P w K mg base (CXE P w) 6 (fs i) (fds i) ["self","deeds"] (zO C CM (cl .noDeed) Cs i))
  (st:∀ n,(∀ i,aP P w K mg base (CXE P w) (11+n) (fs i) (fds i) ["self","deeds"] (iH C CM (cl .noDeed) cT Pr Cs n i))->aP P w K mg base (CXE P w) (11+(n+1)) (fs 6) (fds 6) ["self","deeds"] (iH C CM (cl .noDeed) cT Pr Cs (n+1) 6)) :
  ∀ (n:Nat) (i:_root_.Fin 7),aP P w K mg base (CXE P w) (11+n) (fs i) (fds i) ["self","deeds"] (iH C CM (cl .noDeed) cT Pr Cs n i):=by
 have pl:∀ (n:Nat) (i:_root_.Fin 7),i.1<6->aP P w K mg base (CXE P w) (11+n) (fs i) (fds i) ["self","deeds"] (iH C CM (cl .noDeed) cT Pr Cs n i):=λn i hi=>aP.weaker (aP.more (Gp i hi) (by omega)) λvs H Q E ⟨x,dd,r,S,e,hc,hR,hwf,hn,hsh,hW,SO,TB,hF,qd,q,qt⟩=>by
  obtain⟨k,hp⟩:=rZ (r:=r) (by rw[hc]; exact hi)
  have all:(k.about.all λz=>cZ (wts S 1 []) (.str z))=true↔∀ z∈k.about,z∈S:=by
   rw[xBn];exact⟨λh z hz=>(SO.gd z).mp (h z hz),λh z hz=>(SO.gd z).mpr (h z hz)⟩
  cases hp <;> exact⟨x,dd,k,_,e,hc,hR,hwf,hsh,hW,λz H' s=>qd (λy=>z (all.mpr y)) H' (jV s) (TB.same s),λz X H' s M=>q (all.mp z) X k.mw H' rfl (jV s) (TB.same s) M⟩
 intro n
 induction n with
 | zero=>
  intro i
  by_cases hi:i.1<6
  ·exact pl 0 i hi
  ·exact aP.none λvs H Q E ⟨x,dd,r,S,_,hc,_,_,_,_,_,_,_,_,_,_,_⟩=>hi (by rw[<- hc]; exact aNo r)
 | succ n ih=>
  intro i
  by_cases hi:i.1<6
  ·exact pl _ i hi
  ·obtain rfl:i=6:=Fin.ext (by have:=i.2; show i.1=6; omega);exact st n ih
theorem aVs:aO ["rule","deeds","row"] ["rule","deeds","row"] (aA aAc):=xfs
theorem aJj {f fBh:Addr}{fd fdBh:FuncData}(F:Fun K "keeps" "keeps" aAc f fd)(MC:nA K CM)(M:Fam K Cs "machine" ["self","deeds"] fs fds)(G:∀ (n:Nat) (i:_root_.Fin 7),aP P w K mg base (CXE P w) (11+n) (fs i) (fds i) ["self","deeds"] (iH C CM (cl .noDeed) cT Pr Cs n i))
  (GB:aP P w K mg base (CXE P w) 4 fBh fdBh ["self","row"] (uE K C CM cl))(bB:aS K fdBh ["self","row"] [])(mB:eI K CM "behind" fBh)(n:Nat):aP P w K mg base (CXE P w) (12+n) f fd ["rule","deeds","row"] (aCn K C CM (cl .noDeed) cT Pr Cs n):=by
 rw[show 12+n=(11+n)+1 by omega];refine okE F aVs (λvs H Q E h=>?_) (λcdv A outer s H vs Q E hr h D=>?_)
 ·obtain⟨x,dd,rr,r,S,row,rfl,_⟩:=h;rfl
 ·obtain⟨x,dd,rr,r,S,row,rfl,hR,hwf,hn,hsh,hW,SO,TB,hF,hrr,hsr,qd,q,qt⟩:=h;have hr4:bY 4 _:=hr.mono (by omega);refine⟨_,aK (aQ (iA wA (dQ (xS (Cs:=λi:_root_.Fin 7=>Cs i) (sps:=λi:_root_.Fin 7=>iH C CM (cl .noDeed) cT Pr Cs n i) (pv 0) M.c M.m (G n) hr M.b (D.passes λ_ _ _ z=>z) (pac (pv 1) aE)) MC.cl mB GB hr4 bB .nil (D.passes λ_ _ _ z=>z) (pac (pv 2) aE)) jB (bJ _))),?_⟩;obtain⟨dy,fl,hy,hfl⟩:=hR.ins;refine⟨_,rfl,⟨qI n r,yX r⟩,x,dy,fl,rfl,hy,hfl "machine" (by decide),_,rfl,x,dd,r,S,rfl,rfl,hR,hwf,hn,hsh,hW,SO,TB,hF,λz H' s T=>qd (.inl z) H' s T,λha X m H1 ev s1 T1 M1=>?_,qt⟩;obtain⟨dX,lM,eM,kM,kv,g,MA⟩:=id M1;have nt:=eU TB.tb s1;refine⟨X,dX,_,rfl,MA.ins,gD _ _ _ _ _ _ (by decide),_,rfl,X,dd,rr,m.b,m.es,m.kn,row,m.ds,_,rfl,M1,ntW nt hW,SqL.of (nt _ _ hrr trivial),hsr,(aDp hwf ha ev).nm,λH2 s2=>?_⟩;have o2:aM (off H Pr) H2:=λb o e=>s2 _ _ (s1 _ _ e)
  by_cases hg:∀ z∈row,z∈S
  ·rw[xAz (xBn.mpr λv hv=>by
    obtain⟨y,hy,rfl⟩:=xAo.mp hv;exact (SO.gd y).mpr (hg y hy))]
   cases walk m.ds m.kn m.b row with
   | none=>exact⟨rfl,q ha hg _ m H2 ev o2 (T1.same s2)⟩
   | some z=>exact⟨rfl,q ha hg _ m H2 ev o2 (T1.same s2)⟩
  ·rw[xAw λz=>hg λy hy=>(SO.gd y).mp (xBn.mp z _ (xAo.mpr ⟨y,hy,rfl⟩))];exact qd (.inr hg) H2 o2 (T1.same s2)
end
theorem aUi:bootBuiltins "ValueError" = some (.type "ValueError"):=by decide +kernel
abbrev yL:List Str:=["deed","rule","many"]
structure Kd (K:xAb)(mg:xSO)(ds:_root_.Fin 3->Addr)(cW:Addr):Prop where
 m0:mg "NoDeed"=some (.ref (ds 0))
 m1:mg "NoRule"=some (.ref (ds 1))
 m2:mg "TooMany"=some (.ref (ds 2))
 ek:∀ i,tT K (ds i)
 kit:∀ i j,kitOne K (.ref (ds i)) (.ref (ds j))=some (decide (i=j))
 ve:∀ i,kitOne K (.ref (ds i)) (.type "ValueError")=some true
 mve:mg "ValueError"=none
 mW:mg "WardError"=some (.ref cW)
 xm:∀ i,exmOne K (.ref (ds i)) (.ref cW)=some true
inductive zP (ds:_root_.Fin 3->Addr)(vs:List V)(H:Hp)(Q:VK)(E:XK):Prop
 | mk (e:Addr)(i:_root_.Fin 3)(h0_:vs=[.ref e])(h1_:aPk H e (ds i))(h2_:∀ H',aM H H'->Q (.str (yL.getD i "")) H')
section
variable {P:Program}{w:World}{K:xAb}{mg:xSO}{base:Heap}{ds:_root_.Fin 3->Addr}{cW:Addr}
abbrev NKi:List Str:=["_law_e","_law_some"]
theorem aSn:aO NKi ["_law_e"] (aA aHq):=xfs
theorem aMu {f:Addr}{fd:FuncData}(F:Fun K "_law_kind" "_law_kind" aHq f fd)(T:Txt K mg)(W:Kd K mg ds cW):aDz P w K mg base 1 f fd ["_law_e"] (zP ds):=by
 refine F.okU aSn (λvs H Q E h=>?_) (λcdv A outer s H vs Q hr h=>?_)
 ·obtain⟨e,i,rfl,_⟩:=h;rfl
 ·obtain⟨e,i,rfl,hx,q⟩:=h
  refine⟨_,aJ (bO (i:=1) aSn.nd rfl (xBg rfl) (aV (pac (bV lV (by rfl) T.isi Bo.isinstance (pac (pv 0) (pac (eQ (v:=.ref (ds 0)) (by rfl) W.m0 rfl) aE)))
    (pac (bV lV (by rfl) T.isi Bo.isinstance (pac (pv 0) (pac (eQ (v:=.ref (ds 1)) (by rfl) W.m1 rfl) aE))) (pac (bV lV (by rfl) T.isi Bo.isinstance (pac (pv 0) (pac (eQ (v:=.ref (ds 2)) (by rfl) W.m2 rfl) aE))) aE)))))
   (aJ (cM (iV (aX kE (kU xBq PySem.F.slot_list_count PySem.F.type_list_count aFm (pv 1) (pac gN aE)) aN (bJ _))
     (hU (gR (iJ (bV lV (by rfl) T.isi Bo.isinstance (pac (pv 0) (pac (qS (v:=.ty "ValueError") (by rfl) W.mve aUi rfl) aE))))))).pt (aK (aQ aL)) aZ)
   (aK (aQ (cQ dD (aV (pac aL (pac aL (pac aL aE)))) (kU xBq PySem.F.slot_list_index PySem.F.type_list_index aFl (pv 1) (pac gN aE)) (λ_ _=>rfl))))),?_⟩
  have ek:=W.ek i;refine⟨_,rfl,e,_,_,_,_,rfl,vT,hx,ek,W.kit i 0,_,rfl,e,_,_,_,_,rfl,vT,hx,ek,W.kit i 1,_,rfl,e,_,_,_,_,rfl,vT,hx,ek,W.kit i 2,by show 3<=sizeLine; decide,λp hp=>?_⟩;have s1:aM H (upd H p (.lst ([decide (i=0),decide (i=1),decide (i=2)].map V.bl))):=smu hp;have e1:(upd H p (.lst ([decide (i=0),decide (i=1),decide (i=2)].map V.bl))) p=_:=aD;show wY _ _ _ _ (upd H p (.lst ([decide (i=0),decide (i=1),decide (i=2)].map V.bl)));generalize upd H p (.lst ([decide (i=0),decide (i=1),decide (i=2)].map V.bl))=H1 at s1 e1 ⊢;have c1:=(show ∀ i:_root_.Fin 3,[decide (i=0),decide (i=1),decide (i=2)].count true=1 by decide) i;have c2:=(show ∀ i:_root_.Fin 3,[decide (i=0),decide (i=1),decide (i=2)][i.1]?=some true/\∀ m,m<i.1->[decide (i=0),decide (i=1),decide (i=2)][m]?≠some true by decide) i;refine⟨_,rfl,.inl ⟨rfl,_,SqL.of e1⟩,p,_,rfl,rfl,e1,rfl,_,rfl,?_⟩;rw[c1];refine gF ⟨_,rfl,e,_,_,_,_,rfl,jQ,s1 e _ hx,ek,W.ve i,_,rfl,gF ⟨by show 3<=sizeLine; decide,λp2 hp2=>?_⟩⟩;have e2:=smu (o:=.lst [.str "deed",.str "rule",.str "many"]) hp2 _ _ e1;refine⟨_,rfl,.inl ⟨rfl,_,SqL.of e2⟩,p,_,i.1,rfl,rfl,e2,c2.1,c2.2,p2,_,_,.str (yL.getD i ""),rfl,rfl,SqL.of aD,?_,q _ (s1.trans (smu hp2))⟩;exact (show ∀ i:_root_.Fin 3,atI [V.str "deed",V.str "rule",V.str "many"] ((i.1:Nat):Int)=some (.str (yL.getD i "")) by decide +kernel) i
end
inductive RW
 | never (a:Str) | most (a:Str) (v:V) | two (w:_root_.Fin 4) (a b:Str)
abbrev wn:_root_.Fin 4->Str
 | 0=>"ahead" | 1=>"turns" | 2=>"hold" | 3=>"answer"
def RW.wl:RW->List V
 | .never a=>[.str "never",.str a]
 | .most a v=>[.str "most",.str a,v]
 | .two w a b=>[.str (wn w),.str a,.str b]
def RW.Tm:RW->Prop
 | .most _ v=>K34.Tm v
 | _=>True
def RW.rk:RW->Option RK
 | .never a=>some (.never a)
 | .most a (.int n)=>if isT (.int n)=true then some (.most a n.toNat) else none
 | .most _ _=>none
 | .two w a b=>if a=b then none else some (.two w a b)
inductive rH (Cs:Nat->Addr)(cN:Addr)(vs:List V)(H:Hp)(Q:VK)(E:XK):Prop
 | mk (t:Addr)(wd:RW)(h0_:vs=[.ref t])(h1_:H t=some (.tup wd.wl))(h2_:wd.Tm)(h3_:∀ k,wd.rk=some k->∀ X H',aM H H'->eK Cs H' X k->Q (.ref X) H')(h4_:wd.rk=none->∀ H',aM H H'->E (.ref cN) none H')
theorem ifT {a b:Str}{p q:Prop}(h:a=b)(x:p):if decide (V.str a=V.str b)=true then p else q:=by rw[h,xAz (xAm rfl)]; exact x
theorem ifF {a b:Str}{p q:Prop}(h:a≠b)(x:q):if decide (V.str a=V.str b)=true then p else q:=by rw[xAw (λz=>h (V.str.inj (xAt z)))]; exact x
structure CkC (P:Program)(w:World)(K:xAb)(mg:xSO)(base:Heap)(CX:CXT)(n:Nat)(x:Str)(C f:Addr)(fd:FuncData)(ps:List Str)(sp:Sp):Prop where
 G:aP P w K mg base CX n f fd ps sp
 k:Mk K C f
 b:aS K fd ps []
 m:mg x=some (.ref C)
theorem aVe:aO ["_law_row"] ["_law_row"] (aA vM):=xfs
theorem aEu {f fN fO fA fU fH fW cN:Addr}{fd fdN fdO fdA fdU fdH fdW:FuncData}{Cs:Nat->Addr}(F:Fun K "_law_rule_of" "_law_rule_of" vM f fd)(RC:∀ i:_root_.Fin 4,iS K (Cs (2+i)))
  (MN:CkC P w K mg base CX0 1 "Never" (Cs 0) fN fdN ["self","deed"] (xF (Cs 0)))(MO:CkC P w K mg base (CXE P w) 2 "Most" (Cs 1) fO fdO ["self","deed","many"] (qM (Cs 1) cN))(MA:CkC P w K mg base (CXE P w) 2 "Ahead" (Cs 2) fA fdA ["self","first","later"] (iG K cN))
  (MU:CkC P w K mg base (CXE P w) 2 "Turns" (Cs 3) fU fdU ["self","one","other"] (iG K cN))(MH:CkC P w K mg base (CXE P w) 2 "Hold" (Cs 4) fH fdH ["self","deed","other"] (iG K cN))(MW:CkC P w K mg base (CXE P w) 2 "Answer" (Cs 5) fW fdW ["self","deed","other"] (iG K cN)) :
  aP P w K mg base (CXE P w) 4 f fd ["_law_row"] (rH Cs cN):=by
 refine okE F aVe (λvs H Q E h=>?_) (λcdv A outer s H vs Q E hr h D=>?_)
 ·obtain⟨t,wd,rfl,_⟩:=h;rfl
 ·obtain⟨t,wd,rfl,ht,hT,q,qe⟩:=h;have hr2:bY 2 _:=hr.mono (by decide);have ps:=D.passes λ(_:Value) (_:Option Addr) (_:Hp) (z:E _ _ _)=>z
  refine⟨_,aJ (cM (aX iX (cQ dW (pv 0) aN (λ_ _=>rfl)) aL (bJ _)) (aK (aQ (cL MN.k MN.G hr2 rfl MN.m MN.b .nil aY (pac (cQ dW (pv 0) aN (λ_ _=>rfl)) aE)))) aZ)
   (aJ (cM (aX iX (cQ dW (pv 0) aN (λ_ _=>rfl)) aL (bJ _)) (aK (aQ (cL MO.k MO.G hr rfl MO.m MO.b .nil ps (pac (cQ dW (pv 0) aN (λ_ _=>rfl)) (pac (cQ dW (pv 0) aN (λ_ _=>rfl)) aE))))) aZ)
   (aJ (cM (aX iX (cQ dW (pv 0) aN (λ_ _=>rfl)) aL (bJ _)) (aK (aQ (cL MA.k MA.G hr rfl MA.m MA.b .nil ps (pac (cQ dW (pv 0) aN (λ_ _=>rfl)) (pac (cQ dW (pv 0) aN (λ_ _=>rfl)) aE))))) aZ)
   (aJ (cM (aX iX (cQ dW (pv 0) aN (λ_ _=>rfl)) aL (bJ _)) (aK (aQ (cL MU.k MU.G hr rfl MU.m MU.b .nil ps (pac (cQ dW (pv 0) aN (λ_ _=>rfl)) (pac (cQ dW (pv 0) aN (λ_ _=>rfl)) aE))))) aZ)
   (aJ (cM (aX iX (cQ dW (pv 0) aN (λ_ _=>rfl)) aL (bJ _)) (aK (aQ (cL MH.k MH.G hr rfl MH.m MH.b .nil ps (pac (cQ dW (pv 0) aN (λ_ _=>rfl)) (pac (cQ dW (pv 0) aN (λ_ _=>rfl)) aE))))) aZ)
   (aK (aQ (cL MW.k MW.G hr rfl MW.m MW.b .nil ps (pac (cQ dW (pv 0) aN (λ_ _=>rfl)) (pac (cQ dW (pv 0) aN (λ_ _=>rfl)) aE))))))))),?_⟩
  have k1:∀ {X dX C:Addr},H X=none->H dX=none->aM H (upd (upd H dX (.own X)) X (.ins C dX [])):=λ{X dX C} hX hdX b o e=>by rw[aH (aI e hX),aH (aI e hdX)]; exact e
  have fin:∀ {X dX C:Addr}{H':Hp},H X=none->H dX=none->SameBut X (upd (upd H dX (.own X)) X (.ins C dX [])) H'->aM H H':=λ{X dX C H'} hX hdX sb b o e=>sb b o (aI e hX) (k1 hX hdX b o e);cases wd with
  | never a=>
   exact⟨_,rfl,t,_,_,.str "never",rfl,rfl,SqT.of ht,rfl,rfl,_,rfl,ifT rfl ⟨_,rfl,t,_,_,.str a,rfl,rfl,SqT.of ht,rfl,λX dX hX hdX _=>⟨X,dX,a,rfl,aD,λH' sb hx=>⟨rfl,q _ rfl X H' (fin hX hdX sb) ⟨dX,hx⟩⟩⟩⟩⟩
  | most a v=>
   refine⟨_,rfl,t,_,_,.str "most",rfl,rfl,SqT.of ht,rfl,rfl,_,rfl,ifF (by decide +kernel) ⟨_,rfl,t,_,_,.str "most",rfl,rfl,SqT.of ht,rfl,rfl,_,rfl,ifT rfl ⟨_,rfl,t,_,_,.str a,rfl,rfl,SqT.of ht,rfl,_,rfl,t,_,_,v,rfl,rfl,SqT.of ht,rfl,λX dX hX hdX _=>⟨X,dX,a,v,rfl,hT,aD,λn hv hn H' sb hx=>⟨rfl,?_⟩,λhv=>?_⟩⟩⟩⟩
   ·subst hv
    have:isT (.int n)=true:=by show (decide ((0:Int)<=n)&&decide ((n:Int)<=6))=true; rw[xAm (by omega),xAm (by omega)]; rfl
    exact q (.most a n) (by show (if isT (.int n)=true then some (RK.most a (n:Int).toNat) else none)=_; rw[xAz this]; rfl) X H' (fin hX hdX sb) ⟨dX,hx⟩
   ·refine qe ?_ _ (k1 hX hdX);cases v with
    | int n=>show (if isT (.int n)=true then some (RK.most a n.toNat) else none)=_; rw[xAw (by rw[hv]; decide)]
    | _=>rfl
  | two v a b=>
   have tw:∀ (C:Addr),C=Cs (2+v)->∀ (X dX:Addr),H X=none->H dX=none->iG K cN [.ref X,.str a,.str b] (upd (upd H dX (.own X)) X (.ins C dX [])) (λv H2=>v=.non/\Q (.ref X) H2) E:=λC hC X dX hX hdX=>by
    subst hC;exact⟨X,dX,_,a,b,rfl,RC v,aD,λhab H' sb hx=>⟨rfl,q (.two v a b) (xAw hab) X H' (fin hX hdX sb) ⟨dX,hx⟩⟩,λhab=>qe (xAz hab) _ (k1 hX hdX)⟩
   match v,ht,tw with
   | 0,ht,tw=>exact⟨_,rfl,t,_,_,.str "ahead",rfl,rfl,SqT.of ht,rfl,rfl,_,rfl,ifF (by decide +kernel) ⟨_,rfl,t,_,_,.str "ahead",rfl,rfl,SqT.of ht,rfl,rfl,_,rfl,ifF (by decide +kernel) ⟨_,rfl,t,_,_,.str "ahead",rfl,rfl,SqT.of ht,rfl,rfl,_,rfl,ifT rfl ⟨_,rfl,t,_,_,.str a,rfl,rfl,SqT.of ht,rfl,_,rfl,t,_,_,.str b,rfl,rfl,SqT.of ht,rfl,λX dX hX hdX _=>tw _ rfl X dX hX hdX⟩⟩⟩⟩
   | 1,ht,tw=>exact⟨_,rfl,t,_,_,.str "turns",rfl,rfl,SqT.of ht,rfl,rfl,_,rfl,ifF (by decide +kernel) ⟨_,rfl,t,_,_,.str "turns",rfl,rfl,SqT.of ht,rfl,rfl,_,rfl,ifF (by decide +kernel) ⟨_,rfl,t,_,_,.str "turns",rfl,rfl,SqT.of ht,rfl,rfl,_,rfl,ifF (by decide +kernel) ⟨_,rfl,t,_,_,.str "turns",rfl,rfl,SqT.of ht,rfl,rfl,_,rfl,ifT rfl ⟨_,rfl,t,_,_,.str a,rfl,rfl,SqT.of ht,rfl,_,rfl,t,_,_,.str b,rfl,rfl,SqT.of ht,rfl,λX dX hX hdX _=>tw _ rfl X dX hX hdX⟩⟩⟩⟩⟩
   | 2,ht,tw=>exact⟨_,rfl,t,_,_,.str "hold",rfl,rfl,SqT.of ht,rfl,rfl,_,rfl,ifF (by decide +kernel) ⟨_,rfl,t,_,_,.str "hold",rfl,rfl,SqT.of ht,rfl,rfl,_,rfl,ifF (by decide +kernel) ⟨_,rfl,t,_,_,.str "hold",rfl,rfl,SqT.of ht,rfl,rfl,_,rfl,ifF (by decide +kernel) ⟨_,rfl,t,_,_,.str "hold",rfl,rfl,SqT.of ht,rfl,rfl,_,rfl,ifF (by decide +kernel) ⟨_,rfl,t,_,_,.str "hold",rfl,rfl,SqT.of ht,rfl,rfl,_,rfl,ifT rfl ⟨_,rfl,t,_,_,.str a,rfl,rfl,SqT.of ht,rfl,_,rfl,t,_,_,.str b,rfl,rfl,SqT.of ht,rfl,λX dX hX hdX _=>tw _ rfl X dX hX hdX⟩⟩⟩⟩⟩⟩
   | 3,ht,tw=>exact⟨_,rfl,t,_,_,.str "answer",rfl,rfl,SqT.of ht,rfl,rfl,_,rfl,ifF (by decide +kernel) ⟨_,rfl,t,_,_,.str "answer",rfl,rfl,SqT.of ht,rfl,rfl,_,rfl,ifF (by decide +kernel) ⟨_,rfl,t,_,_,.str "answer",rfl,rfl,SqT.of ht,rfl,rfl,_,rfl,ifF (by decide +kernel) ⟨_,rfl,t,_,_,.str "answer",rfl,rfl,SqT.of ht,rfl,rfl,_,rfl,ifF (by decide +kernel) ⟨_,rfl,t,_,_,.str "answer",rfl,rfl,SqT.of ht,rfl,rfl,_,rfl,ifF (by decide +kernel) ⟨_,rfl,t,_,_,.str a,rfl,rfl,SqT.of ht,rfl,_,rfl,t,_,_,.str b,rfl,rfl,SqT.of ht,rfl,λX dX hX hdX _=>tw _ rfl X dX hX hdX⟩⟩⟩⟩⟩⟩
inductive aCi (vs:List V)(H:Hp)(Q:VK)(E:XK):Prop
 | mk (t:Addr)(wd:RW)(h0_:vs=[.ref t])(h1_:H t=some (.tup wd.wl))(h2_:wd.Tm)(h3_:∀ H',aM H H'->Q (.str (if wd.rk.isSome=true then "" else "rule")) H')
inductive aHe (Cs:Nat->Addr)(n:Nat)(vs:List V)(H:Hp)(Q:VK)(E:XK):Prop
 | mk (p:Addr)(as:List Addr)(l:List (Rl n))(h0_:vs=[.ref p])(h2_:H p=some (.lst (as.map V.ref)))(h3_:Paired (RAt Cs H n) as l)(h4_:∀ r∈l,WfR n r)(h5_:∀ H',aM H H'->Q (.str (if l.length<=4/\fJ (n+1) (.inr l)<=3 then "" else "many")) H')
def Oc (S:List Str)(n:Nat)(r:Rl n)(row:List Str)(a:Str):Prop:=(a="deed" /\ ((¬ ∀ z∈cG n r,z∈S)\/¬ ∀ z∈row,z∈S))\/(a="many" /\ (∀ z∈cG n r,z∈S)/\Ev S n r none)\/(a="" /\ (∀ z∈cG n r,z∈S)/\(∀ z∈row,z∈S)/\∃ m,Ev S n r (some m))
inductive aCt (C Pr:Addr)(Cs:Nat->Addr)(n:Nat)(vs:List V)(H:Hp)(Q:VK)(E:XK):Prop
 | mk (x dd rr:Addr)(r:Rl n)(S row:List Str)(h0_:vs=[.ref x,.ref dd,.ref rr])(h2_:RAt Cs H n x r)(h3_:WfR n r)(h4_:n<=4)(h5_:dR (cG n r))(h6_:WAt C H dd (wts S 1 []))(h7_:SOk S)(h8_:Tab dI dH Pr H)(h9_:(∀ z∈cG n r,z∈S)->wU S n r)
  (ha_:H rr=some (.lst (row.map V.str)))(hb_:dR row)
  (h10_:∀ f a b H',Oc S n r [] a->Oc S n r row b->aM (off H Pr) H'->H f=none->Tab dI dH Pr H'->H' f=some (.lst [.str a,.str b])->Q (.ref f) H')
abbrev cf (Cs:Nat->Addr)(i:_root_.Fin 7):Addr:=Cs i
abbrev mf (C CM cD cT Pr:Addr)(Cs:Nat->Addr)(n:Nat)(i:_root_.Fin 7):Sp:=iH C CM cD cT Pr Cs n i
section
variable {P:Program}{w:World}{K:xAb}{mg:xSO}{base:Heap}{ds:_root_.Fin 3->Addr}{cW:Addr}{Cs:Nat->Addr}{fs:_root_.Fin 7->Addr}{fds:_root_.Fin 7->FuncData}{C CM Pr:Addr}
structure KiC (P:Program)(w:World)(K:xAb)(mg:xSO)(base:Heap)(ds:_root_.Fin 3->Addr)(cW fK:Addr)(fdK:FuncData):Prop where
 W:Kd K mg ds cW
 G:aDz P w K mg base 1 fK fdK ["_law_e"] (zP ds)
 k:keepIn K (.ref fK)=true
 b:aS K fdK ["_law_e"] []
 m:mg "_law_kind"=some (.ref fK)
abbrev NML:List Str:=["_law_words","_law_e"]
theorem aSm:aO NML ["_law_words"] (aA aHp):=xfs
theorem aJc {f fK fR:Addr}{fd fdK fdR:FuncData}(F:Fun K "_law_made" "_law_made" aHp f fd)(KI:KiC P w K mg base ds cW fK fdK)
  (GR:aP P w K mg base (CXE P w) 4 fR fdR ["_law_row"] (rH Cs (ds 1)))(kR:keepIn K (.ref fR)=true)(bR:aS K fdR ["_law_row"] [])(mR:mg "_law_rule_of" = some (.ref fR)):aP P w K mg base CX0 5 f fd ["_law_words"] aCi:=by
 refine F.ok aSm (λvs H Q E h=>?_) (λcdv A outer s H vs Q E hr h=>?_)
 ·obtain⟨t,wd,rfl,_⟩:=h;rfl
 ·obtain⟨t,wd,rfl,ht,hT,q⟩:=h;have hr1:bY 1 _:=hr.mono (by decide);refine⟨_,aK (vV (i:=1) (by decide) (by rfl) ⟨rfl,rfl⟩ aSm.nd rfl rfl (by rfl) KI.W.mW (λpn E σ Ew hx=>aDv GR hr rfl mR kR bR hx (pac (pv 0) aE)) (λpn E=>aK (aQ aL)) (λe pn=>aK (aQ (sG KI.G (hr1.u e) (by rfl) KI.m KI.k KI.b (pac (pv 1) aE))))),?_⟩;refine⟨λcls _ H1=>cls=.ref (ds 1)/\wd.rk=none/\aM H H1,⟨_,rfl,t,wd,rfl,ht,hT,λk hk X H' s _=>?_,λhn H' s=>⟨rfl,hn,s⟩⟩,?_⟩
  ·have:=q H' s
   rw[hk] at this;exact this
  ·rintro cls H1 ⟨rfl,hn,s1⟩;refine⟨_,rfl,KI.W.xm 1,λe he=>⟨_,rfl,e,1,rfl,aD,λH2 s2=>?_⟩⟩
   have:=q H2 (s1.trans ((smu he).trans s2))
   rw[hn] at this;exact this
abbrev NAL:List Str:=["_law_rules","_law_e"]
theorem aOr:aO NAL ["_law_rules"] (aA aHu):=xfs
theorem aMy {f fK fI:Addr}{fd fdK fdI:FuncData}(F:Fun K "_law_all" "_law_all" aHu f fd)(KI:KiC P w K mg base ds cW fK fdK)
  (A1:∀ n,CkC P w K mg base (CXE P w) (3+n) "All" (Cs 6) fI fdI ["self","rules"] (vJ Cs (ds 2) n))(n:Nat):aP P w K mg base CX0 (5+n) f fd ["_law_rules"] (aHe Cs n):=by
 rw[show 5+n=(3+n+1)+1 by omega];refine F.ok aOr (λvs H Q E h=>?_) (λcdv A outer s H vs Q E hr h=>?_)
 ·obtain⟨p,as,l,rfl,_⟩:=h;rfl
 ·obtain⟨p,as,l,rfl,hp,hP,hwf,q⟩:=h;have hr1:bY 1 _:=hr.mono (by omega);refine⟨_,aK (vV (i:=1) (by decide) (by rfl) ⟨rfl,rfl⟩ aOr.nd rfl rfl (by rfl) KI.W.mW (λpn E σ Ew hx=>aNz (A1 n).k (A1 n).G hr rfl (A1 n).m (A1 n).b hx (pac (pv 0) aE)) (λpn E=>aK (aQ aL)) (λe pn=>aK (aQ (sG KI.G (hr1.u e) (by rfl) KI.m KI.k KI.b (pac (pv 1) aE))))),?_⟩;refine⟨λcls _ H1=>cls=.ref (ds 2)/\(¬ (l.length<=4/\fJ (n+1) (.inr l)<=3))/\aM H H1,⟨_,rfl,λX dX hX hdX _=>?_⟩,?_⟩
  ·have k1:aM H (upd (upd H dX (.own X)) X (.ins (Cs 6) dX [])):=λb o e=>by rw[aH (aI e hX),aH (aI e hdX)]; exact e
   have fin:∀ {H'},SameBut X (upd (upd H dX (.own X)) X (.ins (Cs 6) dX [])) H'->aM H H':=λsb b o e=>sb b o (aI e hX) (k1 b o e);refine⟨X,dX,p,as,l,rfl,aD,k1 _ _ hp,L2.Paired.mapP hP λ_ _ z=>z.same k1,hwf,λhm H' sb=>⟨rfl,by omega,fin sb⟩,λh4 h3 p' H' sb _ _=>⟨rfl,?_⟩⟩
   have:=q H' (fin sb)
   rw[xAz ⟨h4,h3⟩] at this;exact this
  ·rintro cls H1 ⟨rfl,hn,s1⟩;refine⟨_,rfl,KI.W.xm 2,λe he=>⟨_,rfl,e,2,rfl,aD,λH2 s2=>?_⟩⟩
   have:=q H2 (s1.trans ((smu he).trans s2))
   rw[xAw hn] at this;exact this
theorem Tab.lst {Pr f:Addr}{xs ys:List V}{H:Hp}(T:Tab dI dH Pr H)(h:H f=some (.lst xs)):Tab dI dH Pr (upd H f (.lst ys)):=by
 have nB:∀ {c o},H c=some o->(∀ xs,o≠.lst xs)->(upd H f (.lst ys)) c=some o:=λ{c o} e n=>by rw[aH (λz=>by rw[z,h] at e; exact n _ (xBj e).symm)]; exact e
 exact T.elim (λh=>.inl (nB h (λ_ z=>nomatch z))) λ⟨c',h1,h2⟩=>.inr ⟨c',nB h1 (λ_ z=>nomatch z),nB h2 (λ_ z=>nomatch z)⟩
abbrev NAs:List Str:=["_law_rule","_law_deeds","_law_row","_law_found","_law_e"]
theorem aQg:aO NAs ["_law_rule","_law_deeds","_law_row"] (aA aAf):=xfs
theorem aTt {X:Cx}{e:Expr}{te:TE}{p ap q r:Pos}(hN:X.N[3]?=some ("_law_found" : Str))(hv:Vis X.env.scope "_law_found")(hs:kX e=false)(hl:(ap.endLine==q.line)=true)(he:PE X e te) :
  PSs X [.Expr (.Call (.Attribute (.Name "_law_found" p) "append" ap) [e] [] q) r] (wY (aCe (tBM X.K "list" qP (qE 3) (iT te qF))) aCc):=
 aK (cX (kU xBq xDh xDg iF (vW hN hv) (pac he aE hs) (hfew:=by rw[cK hs]; rfl) (hline:=hl) (hs:=cK hs)))
theorem aRv {X:Cx}{e1:Expr}{t1:XK->TE}{fK:Addr}{fdK:FuncData}{j:Nat}{p1 p2 p3 p4 p5 p6 p7 p8 p9 p10 p11 p12 p13 p14 p15 p16:Pos}(KI:KiC X.prog X.w X.K X.mg X.base ds cW fK fdK)(hr:bY 1 X.A)(F:X.Frame)(hN:X.N=NAs)(hl:X.env.scope.names.lookup ("_law_e" : Str)=some .local)(hf:Vis X.env.scope "_law_found")(g1:Gl X "WardError")(g2:Gl X "_law_kind")
  (h1:∀ pn E σ Ew,lL (CXE X.prog X.w) (X.pinned pn E) σ Ew->aLo (X.pinned pn E) σ e1 (t1 Ew))(hw:swapsWith e1 none p1.line X.env=pure false:=by rfl)(l1:(p3.endLine==p5.line)=true:=by rfl)(l2:(p9.endLine==p13.line)=true:=by rfl) :
  PS X (.Try [.Expr e1 p1,.Expr (.Call (.Attribute (.Name "_law_found" p2) "append" p3) [.Constant (.str "") j p4] [] p5) p6] [.ExceptHandler (some (.Name "WardError" p7)) (some "_law_e") [.Expr (.Call (.Attribute (.Name "_law_found" p8) "append" p9) [.Call (.Name "_law_kind" p10) [.Name "_law_e" p11] [] p12] [] p13) p14] p15] [] [] p16)
   (aOi X.K (.ref cW) 4 t1 (wY (aCe (tBM X.K "list" qP (qE 3) (iT (tC (.str "")) qF))) aCc) (wY (aCe (tBM X.K "list" qP (qE 3) (iT (wZ (zP ds) [] E0 (iT (qE 4) qF)) qF))) aCc)):=
 vV (by decide) hw F (by rw[hN]; exact aQg.nd) (by rw[hN]; rfl) hl g1 KI.W.mW h1 (λpn E=>aTt (by show X.N[3]?=_; rw[hN]; rfl) hf rfl l1 aL) (λe pn=>aTt (by show X.N[3]?=_; rw[hN]; rfl) hf rfl l2 (sG KI.G (hr.u e) g2 KI.m KI.k KI.b (pac (vW (i:=4) (by show X.N[4]?=_; rw[hN]; rfl) (.inl hl)) aE)))
theorem aJq {f fK fKe:Addr}{fd fdK fdKe:FuncData}(F:Fun K "_law_asked" "_law_asked" aAf f fd)(KI:KiC P w K mg base ds cW fK fdK)(M:Fam K Cs "machine" ["self","deeds"] fs fds)(G:∀ (n:Nat) (i:_root_.Fin 7),aP P w K mg base (CXE P w) (11+n) (fs i) (fds i) ["self","deeds"] (iH C CM (ds 0) (ds 2) Pr Cs n i))
  (GK:∀ n,aP P w K mg base (CXE P w) (12+n) fKe fdKe ["rule","deeds","row"] (aCn K C CM (ds 0) (ds 2) Pr Cs n))(kK:keepIn K (.ref fKe)=true)(bK:aS K fdKe ["rule","deeds","row"] [])(mK:mg "keeps" = some (.ref fKe))(n:Nat):aP P w K mg base CX0 (13+n) f fd ["_law_rule","_law_deeds","_law_row"] (aCt C Pr Cs n):=by
 rw[show 13+n=(12+n)+1 by omega];refine F.ok aQg (λvs H Q E h=>?_) (λcdv A outer s H vs Q E hr h=>?_)
 ·obtain⟨x,dd,rr,r,S,row,rfl,_⟩:=h;rfl
 ·obtain⟨x,dd,rr,r,S,row,rfl,hR,hwf,hn,hsh,hW,SO,TB,hF,hrr,hsr,q⟩:=h;have hr1:bY 1 _:=hr.mono (by omega);have hrM:bY (11+n) _:=hr.mono (by omega)
  refine⟨_,aJ (bO (i:=3) aQg.nd rfl (xBg rfl) (aV aE))
   (nV (λσ H'=>∃ (f:Addr) (a:Str),σ=[some (.ref x),some (.ref dd),some (.ref rr),some (.ref f),none]/\H f=none/\H' f=some (.lst [.str a])/\Oc S n r [] a/\aM (off H Pr) H'/\Tab dI dH Pr H')
    (aRv KI hr1 ⟨rfl,rfl⟩ rfl rfl (.inl rfl) rfl rfl (λpn E σ Ew hx=>yZ (Cs:=cf Cs) (sps:=mf C CM (ds 0) (ds 2) Pr Cs n) (pv 0) M.c M.m (G n) hrM M.b hx (pac (pv 1) aE)))
   (nV (λσ H'=>∃ (f:Addr) (a b:Str),σ=[some (.ref x),some (.ref dd),some (.ref rr),some (.ref f),none]/\H f=none/\H' f=some (.lst [.str a,.str b])/\Oc S n r [] a/\Oc S n r row b/\aM (off H Pr) H'/\Tab dI dH Pr H')
    (aRv KI hr1 ⟨rfl,rfl⟩ rfl rfl (.inl rfl) rfl rfl (λpn E σ Ew hx=>aDv (GK n) hr rfl mK kK bK hx (pac (pv 0) (pac (pv 1) (pac (pv 2) aE)))))
   (aK (aQ (pv 3))))),?_⟩
  refine⟨by show 0<=sizeLine; decide,λf hf=>?_⟩;have s1:aM H (upd H f (.lst [])):=smu hf;have e1:(upd H f (.lst [])) f=some (.lst []):=aD;generalize upd H f (.lst [])=H1 at s1 e1 ⊢;have T1:=TB.same s1;have nb:∀ {b:Addr}{o:HO},off H Pr b=some o->b≠f:=λe z=>by rw[z] at e; rw[(cS e).2] at hf; cases hf
  refine⟨⟨λcls _ H2=>∃ i:_root_.Fin 3,cls=.ref (ds i)/\Oc S n r [] (yL.getD i "")/\aM (off H1 Pr) H2/\Tab dI dH Pr H2,?_,?_⟩,?_⟩
  ·have R1:=hR.same s1;obtain⟨dy,fl,hy,hfl⟩:=R1.ins;refine⟨_,rfl,⟨qI n r,yX r⟩,x,dy,fl,rfl,hy,hfl "machine" (by decide),_,rfl,x,dd,r,S,rfl,rfl,R1,hwf,hn,hsh,dS hW s1,SO,T1,hF,λz H' s T=>⟨0,rfl,.inl ⟨rfl,.inl z⟩,s,T⟩,λha X m H2 ev s2 T2 _=>?_,λha ev H' s T=>⟨2,rfl,.inr (.inl ⟨rfl,ha,ev⟩),s,T⟩⟩;have e2:=eU T1.tb s2 _ _ e1 trivial;exact⟨_,rfl,.inl ⟨rfl,_,SqL.of e2⟩,f,_,_,rfl,rfl,e2,by show 0<sizeLine; decide,f,"",rfl,hf,aD,.inr (.inr ⟨rfl,ha,λz hz=>(nomatch hz),m,ev⟩),λb o e=>by rw[aH (nb e)]; exact s2 _ _ (gS (cS e).1 (s1 _ _ (cS e).2)),T2.lst e2⟩
  ·rintro cls H2 ⟨i,rfl,oc,s2,T2⟩;refine⟨_,rfl,KI.W.xm i,λe he=>?_⟩;have e2:=smu (o:=.ext (hJ e (ds i))) he _ _ (eU T1.tb s2 _ _ e1 trivial);refine⟨_,rfl,.inl ⟨rfl,_,SqL.of e2⟩,_,rfl,e,i,rfl,aD,λH3 s3=>?_⟩;have e3:=s3 _ _ e2;exact⟨f,_,_,rfl,rfl,e3,by show 0<sizeLine; decide,f,_,rfl,hf,aD,oc,λb o e'=>by rw[aH (nb e')]; exact s3 _ _ (smu he _ _ (s2 _ _ (gS (cS e').1 (s1 _ _ (cS e').2)))),((T2.same (smu he)).same s3).lst e3⟩
  clear e1 T1 s1 nb hf;rintro σ H1 ⟨f,a,rfl,hf,e1,oc1,s1,T1⟩;have nt:=eU TB.tb s1;have nb:∀ {b:Addr}{o:HO},off H Pr b=some o->b≠f:=λe z=>by rw[z] at e; rw[(cS e).2] at hf; cases hf
  refine⟨⟨λcls _ H2=>∃ i:_root_.Fin 3,cls=.ref (ds i)/\Oc S n r row (yL.getD i "")/\aM (off H1 Pr) H2/\Tab dI dH Pr H2,?_,?_⟩,?_⟩
  ·refine⟨_,rfl,_,rfl,_,rfl,x,dd,rr,r,S,row,rfl,hR.nt nt,hwf,hn,hsh,ntW nt hW,SO,T1,hF,nt _ _ hrr trivial,hsr,λz H' s T=>⟨0,rfl,.inl ⟨rfl,z⟩,s,T⟩,λha hg b m H2 ev s2 T2=>?_,λha ev H' s T=>⟨2,rfl,.inr (.inl ⟨rfl,ha,ev⟩),s,T⟩⟩;have e2:=eU T1.tb s2 _ _ e1 trivial;exact⟨_,rfl,.inl ⟨rfl,_,SqL.of e2⟩,f,_,_,rfl,rfl,e2,by show 1<sizeLine; decide,f,a,"",rfl,hf,aD,oc1,.inr (.inr ⟨rfl,ha,hg,m,ev⟩),λb o e=>by rw[aH (nb e)]; exact s2 _ _ (gS (cS e).1 (s1 _ _ e)),T2.lst e2⟩
  ·rintro cls H2 ⟨i,rfl,oc,s2,T2⟩;refine⟨_,rfl,KI.W.xm i,λe he=>?_⟩;have e2:=smu (o:=.ext (hJ e (ds i))) he _ _ (eU T1.tb s2 _ _ e1 trivial);refine⟨_,rfl,.inl ⟨rfl,_,SqL.of e2⟩,_,rfl,e,i,rfl,aD,λH3 s3=>?_⟩;have e3:=s3 _ _ e2;exact⟨f,_,_,rfl,rfl,e3,by show 1<sizeLine; decide,f,a,_,rfl,hf,aD,oc1,oc,λb o e'=>by rw[aH (nb e')]; exact s3 _ _ (smu he _ _ (s2 _ _ (gS (cS e').1 (s1 _ _ e')))),((T2.same (smu he)).same s3).lst e3⟩
  rintro σ H2 ⟨f,a,b,rfl,hf,e2,oc1,oc2,s2,T2⟩;exact⟨_,rfl,q f a b H2 oc1 oc2 s2 hf T2 e2⟩
end
def rV:RK->RW
 | .never a=>.never a
 | .most a n=>.most a (.int n)
 | .two w a b=>.two w a b
theorem qO (k:RK)(h:k.Wf):(rV k).rk=some k:=by
 cases k with
 | never a=>rfl
 | most a n=>
  have hn:n<=6:=h
  have:isT (.int n)=true:=by show (decide ((0:Int)<=n)&&decide ((n:Int)<=6))=true; rw[xAm (by omega),xAm (by omega)]; rfl
  show (if isT (.int n)=true then some (RK.most a (n:Int).toNat) else none)=_
  rw[xAz this];rfl
 | two v a b=>exact xAw h
theorem aCx (k:RK):(rV k).Tm:=by
 cases k with
 | most a n=>exact .int _
 | _=>trivial
structure TD (ss fs:List Str):Prop where
 l2:2<=ss.length
 le:ss.length<=12
 nd:ss.Nodup
 m12:∀ z∈ss,z∈jA
 fr:∀ z∈fs,z∈ss
 fl:fs.length<=12
theorem aRw (c:Int)(h:2<=(dN (c/256) (eP c)).length):TD (dN (c/256) (eP c)) (pO c (dN (c/256) (eP c))):=by
 have hl:(dN (c/256) (eP c)).length<=12:=by unfold dN; rw[xAa,xCo]; exact lS _
 exact⟨h,hl,tP _ (lS _),λz hz=>yD hz,λz hz=>aBm hz,xAs (aBn _ _) hl⟩
theorem aPo:TD ["go","r0"] ["r0"]:=⟨by decide,by decide,by decide +kernel,by decide +kernel,by decide +kernel,by decide⟩
inductive aGz (vs:List V)(H:Hp)(Q:VK)(E:XK):Prop
 | mk (c:Int)(h0_:vs=[.int c])(h1_:∀ (t l m:Addr) (ss fs:List Str) H',TD ss fs->aM H H'->H' t=some (.tup [.ref l,.ref m])->H' l=some (.lst (ss.map V.str))->H' m=some (.lst (fs.map V.str))->Q (.ref t) H')
theorem aQb:aO ["_law_cell","_law_names","_law_free"] ["_law_cell"] (aA aQh):=xfs
theorem aMs {f fD:Addr}{fd fdD:FuncData}(F:Fun K "_law_two_deeds" "_law_two_deeds" aQh f fd)(T:Txt K mg)(GD:aP P w K mg base CX0 2 fD fdD ["_law_cell"] (uG K))(kD:keepIn K (.ref fD)=true)(bD:aS K fdD ["_law_cell"] [])(mD:mg "_law_deeds_by" = some (.ref fD)):aP P w K mg base CX0 3 f fd ["_law_cell"] aGz:=by
 refine F.ok aQb (λvs H Q E h=>?_) (λcdv A outer s H vs Q E hr h=>?_)
 ·obtain⟨c,rfl,_⟩:=h;rfl
 ·obtain⟨c,rfl,q⟩:=h
  refine⟨_,aJ (aIc (aR GD hr rfl mD kD bD .nil aY (pac (pv 0) aE)) (iK rfl (cB (aW (i:=1) aQb.nd rfl (xBg rfl)) (cB (aW (i:=2) aQb.nd rfl (xBg rfl)) gH))))
   (aJ (cM (aX aDd (bV cE (by rfl) T.len Bo.len (pac (pv 1) aE)) aN (bJ _)) (aK (aQ (cU (pac (aV (pac aL (pac aL aE))) (pac (aV (pac aL aE)) aE))))) aZ)
   (aK (aQ (cU (pac (pv 1) (pac (pv 2) aE)))))),?_⟩
  refine⟨_,rfl,c,rfl,λt l m H1 s1 ht hl hm=>⟨t,_,rfl,SqT.of ht,rfl,_,_,rfl,_,_,rfl,rfl,?_⟩⟩;refine⟨_,rfl,l,_,rfl,.inl (SqL.of hl),_,_,rfl,rfl,_,rfl,gK (λg=>?_) (λg=>?_)⟩
  ·refine⟨by show 2<=sizeLine; decide,λp1 hp1=>⟨by show 1<=sizeLine; decide,λp2 hp2=>⟨by show 2<=sizeLine; decide,λp3 hp3=>?_⟩⟩⟩;exact q p3 p1 p2 _ _ _ aPo (s1.trans ((smu hp1).trans ((smu hp2).trans (smu hp3)))) aD (smu hp3 _ _ (smu hp2 _ _ aD)) (smu hp3 _ _ aD)
  ·have h2:2<=(dN (c/256) (eP c)).length:=Decidable.byContradiction λz=>g (xAm (by rw[xAa]; omega));exact⟨_,rfl,_,rfl,by show 2<=sizeLine; decide,λp3 hp3=>q p3 l m _ _ _ (aRw c h2) (s1.trans (smu hp3)) aD (smu hp3 _ _ hl) (smu hp3 _ _ hm)⟩
abbrev six:List Str:=["never","most","ahead","turns","hold","answer"]
inductive aCq (K:xAb)(vs:List V)(H:Hp)(Q:VK)(E:XK):Prop
 | mk (c:Int)(n:Addr)(ss:List Str)(h0_:vs=[.int c,.ref n])(h1_:SqL K H n (ss.map V.str))(h2_:2<=ss.length/\ss.length<=12)(h3_:ss.Nodup)(h4_:∀ (t:Addr) (k:RK) H',aM H H'->k.Wf->(∀ z∈k.about,z∈ss)->H' t=some (.tup (rV k).wl)->Q (.ref t) H')
abbrev NDr:List Str:=["_law_cell","_law_names","_law_word","_law_one","_law_other"]
theorem aMd:aO NDr ["_law_cell","_law_names"] (aA aAd):=xfs
theorem aLg {u v L:Int}(h0:0<=v)(h1:v<L-1):(u+1+v)%L≠u%L:=λe=>by
 have e2:(u+1+v-u)%L=0:=(Int.emod_eq_emod_iff_emod_sub_eq_zero).mp e;rw[show u+1+v-u=1+v by omega,Int.emod_eq_of_lt (by omega) (by omega)] at e2;omega
theorem aJo {f:Addr}{fd:FuncData}(F:Fun K "_law_drawn" "_law_drawn" aAd f fd)(T:Txt K mg):aP P w K mg base CX0 1 f fd ["_law_cell","_law_names"] (aCq K):=by
 refine F.ok aMd (λvs H Q E h=>?_) (λcdv A outer s H vs Q E hr h=>?_)
 ·obtain⟨c,n,ss,rfl,_⟩:=h;rfl
 ·obtain⟨c,n,ss,rfl,hS,⟨h2,h12⟩,hnd,q⟩:=h
  refine⟨_,aJ (bO (i:=2) aMd.nd rfl (xBg rfl) (cQ dD (aV (pac aL (pac aL (pac aL (pac aL (pac aL (pac aL aE))))))) (bX dU (pv 0) aN) (λ_ _=>rfl)))
   (aJ (bO (i:=3) aMd.nd rfl (xBg rfl) (cQ dD (pv 1) (bX dU (bX gU (pv 0) aN) (bV cE (by rfl) T.len Bo.len (pac (pv 1) aE))) (λ_ _=>rfl)))
   (aJ (bO (i:=4) aMd.nd rfl (xBg rfl) (cQ dD (pv 1) (bX dU (bX iN (bX iN (bX gU (pv 0) aN) aN) (bX dU (bX gU (pv 0) aN) (bX aQr (bV cE (by rfl) T.len Bo.len (pac (pv 1) aE)) aN))) (bV cE (by rfl) T.len Bo.len (pac (pv 1) aE))) (λ_ _=>rfl)))
   (aJ (cM (aX iX (pv 2) aL (bJ _)) (aK (aQ (cU (pac (pv 2) (pac (pv 3) aE))))) aZ)
   (aJ (cM (aX iX (pv 2) aL (bJ _)) (aK (aQ (cU (pac (pv 2) (pac (pv 3) (pac (bX dU (bX gU (pv 0) aN) aN) aE)))))) aZ)
   (aK (aQ (cU (pac (pv 2) (pac (pv 3) (pac (pv 4) aE)))))))))),?_⟩
  have g6:=cV c (m:=6) (by decide);have g7:=cV (c/144) (m:=7) (by decide);have lm:((ss.map V.str).length:Int)=ss.length:=by rw[xAa]
  have gi:=cV (c/6) (m:=(ss.length:Int)) (by omega);have gv:=cV (c/72) (m:=(ss.length:Int)-1) (by omega);have gj:=cV (c/6+1+c/72%((ss.length:Int)-1)) (m:=(ss.length:Int)) (by omega);have hne:=aLg (u:=c/6) gv.1 gv.2;refine⟨by show 6<=sizeLine; decide,λp1 hp1=>⟨_,rfl,_,_,rfl,rfl,(by show (0:Int)<6; decide),p1,_,_,V.str (six.getD (c%6).toNat ""),rfl,rfl,SqL.of aD,gL V.str six "" g6.1 g6.2,?_⟩⟩;have s1:=smu (o:=.lst [V.str "never",V.str "most",V.str "ahead",V.str "turns",V.str "hold",V.str "answer"]) hp1;generalize upd H p1 (.lst [V.str "never",V.str "most",V.str "ahead",V.str "turns",V.str "hold",V.str "answer"])=H1 at s1 ⊢;have hS1:=s1.seq hS;refine⟨_,rfl,_,rfl,_,_,rfl,rfl,⟨by decide,by decide⟩,_,rfl,n,_,rfl,.inl hS1,_,_,rfl,rfl,(by rw[lm]; omega),n,_,_,.str (ss.getD (c/6%(ss.length:Int)).toNat ""),rfl,rfl,hS1,by rw[lm]; exact gL V.str ss "" gi.1 gi.2,?_⟩;refine⟨_,rfl,_,rfl,_,_,rfl,rfl,⟨by decide,by decide⟩,_,_,rfl,rfl,_,rfl,_,_,rfl,rfl,⟨by decide,by decide⟩,_,rfl,n,_,rfl,.inl hS1,_,_,rfl,rfl,_,_,rfl,rfl,(by rw[lm]; omega),_,_,rfl,rfl,_,rfl,n,_,rfl,.inl hS1,_,_,rfl,rfl,(by rw[lm]; omega),n,_,_,.str (ss.getD ((c/6+1+c/72%((ss.length:Int)-1))%(ss.length:Int)).toNat ""),rfl,rfl,hS1,by rw[lm]; exact gL V.str ss "" gj.1 gj.2,?_⟩;obtain⟨i,ei,hi⟩:∃ i:Nat,c/6%(ss.length:Int)=i/\i<ss.length:=⟨(c/6%(ss.length:Int)).toNat,by omega,by omega⟩;obtain⟨j,ej,hj⟩:∃ j:Nat,(c/6+1+c/72%((ss.length:Int)-1))%(ss.length:Int)=j/\j<ss.length:=⟨((c/6+1+c/72%((ss.length:Int)-1))%(ss.length:Int)).toNat,by omega,by omega⟩;rw[ei,ej] at hne;rw[ei,ej,xCv,xCv];have ha:ss[i]?=some (ss.getD i ""):=by rw[xBv,xAi hi]; rfl
  have hb:ss[j]?=some (ss.getD j ""):=by rw[xBv,xAi hj]; rfl
  generalize ss.getD i ""=a at ha ⊢;generalize ss.getD j ""=b at hb ⊢;have hab:a≠b:=λe=>hne (by rw[(xEe (i:=i) (j:=j) hi hnd).mp (by rw[ha,hb,e])]);have ma:=xBe ha;have mb:=xBe hb;have two:∀ (v:_root_.Fin 4) t,H1 t=none->Q (.ref t) (upd H1 t (.tup [.str (wn v),.str a,.str b])):=λv t ht=>q t (.two v a b) _ (s1.trans (smu ht)) hab (λz hz=>(xAk.mp hz).elim (λe=>e▸ma) λh=>xAg.mp h▸mb) aD;obtain⟨m,em⟩:∃ m:Nat,(c%6).toNat=m/\m<6:=⟨_,rfl,by omega⟩;rw[em.1]
  match m,em.2 with
  | 0,_=>exact⟨_,rfl,rfl,_,rfl,ifT rfl ⟨_,rfl,_,rfl,by show 2<=sizeLine; decide,λt ht=>q t (.never a) _ (s1.trans (smu ht)) trivial (λz hz=>xAg.mp hz▸ma) aD⟩⟩
  | 1,_=>
   obtain⟨r,er⟩:∃ r:Nat,c/144%7=r:=⟨(c/144%7).toNat,by omega⟩;refine⟨_,rfl,rfl,_,rfl,ifF (by decide +kernel) ⟨_,rfl,rfl,_,rfl,ifT rfl ⟨_,rfl,_,rfl,_,rfl,_,_,rfl,rfl,⟨by decide,by decide⟩,_,_,rfl,rfl,(by show (0:Int)<7; decide),by show 3<=sizeLine; decide,λt ht=>?_⟩⟩⟩;rw[er];exact q t (.most a r) _ (s1.trans (smu ht)) (show r<=6 by omega) (λz hz=>xAg.mp hz▸ma) aD
  | 2,_=>exact⟨_,rfl,rfl,_,rfl,ifF (by decide +kernel) ⟨_,rfl,rfl,_,rfl,ifF (by decide +kernel) ⟨_,rfl,_,rfl,_,rfl,by show 3<=sizeLine; decide,λt ht=>two 0 t ht⟩⟩⟩
  | 3,_=>exact⟨_,rfl,rfl,_,rfl,ifF (by decide +kernel) ⟨_,rfl,rfl,_,rfl,ifF (by decide +kernel) ⟨_,rfl,_,rfl,_,rfl,by show 3<=sizeLine; decide,λt ht=>two 1 t ht⟩⟩⟩
  | 4,_=>exact⟨_,rfl,rfl,_,rfl,ifF (by decide +kernel) ⟨_,rfl,rfl,_,rfl,ifF (by decide +kernel) ⟨_,rfl,_,rfl,_,rfl,by show 3<=sizeLine; decide,λt ht=>two 2 t ht⟩⟩⟩
  | 5,_=>exact⟨_,rfl,rfl,_,rfl,ifF (by decide +kernel) ⟨_,rfl,rfl,_,rfl,ifF (by decide +kernel) ⟨_,rfl,_,rfl,_,rfl,by show 3<=sizeLine; decide,λt ht=>two 3 t ht⟩⟩⟩
structure Odd (k k':RK):Prop where
 wf:k'.Wf
 nd:("nodeed" : Str)∈k'.about
 sub:∀ z∈k'.about,z="nodeed" \/ z∈k.about
inductive uB (vs:List V)(H:Hp)(Q:VK)(E:XK):Prop
 | mk (t:Addr)(c:Int)(k:RK)(h0_:vs=[.ref t,.int c])(h1_:H t=some (.tup (rV k).wl))(h2_:k.Wf)(h3_:("nodeed" : Str)∉k.about)(h4_:∀ (t':Addr) (k':RK) H',aM H H'->Odd k k'->H' t'=some (.tup (rV k').wl)->Q (.ref t') H')
theorem aVd:aO ["_law_words","_law_cell"] ["_law_words","_law_cell"] (aA rP):=xfs
theorem aWw (a b:V)(r:List V):jZ (a::b::r) (some 2) none=r:=by
 unfold jZ;rw[HT.sIx_none,show (2:Int)=((2:Nat):Int) from rfl,HT.sIx_nat,xFt (by simp),xCy (by simp)]
 rfl
theorem aTp (a b c:V):jZ [a,b,c] none (some 2)=[a,b]:=by
 unfold jZ;rw[HT.sIx_none,show (2:Int)=((2:Nat):Int) from rfl,HT.sIx_nat]
 rfl
theorem wJ (z:Str)(fs:List Str):inV (.str z) (fs.map V.str)=decide (z∈fs):=by
 have e:∀ y:Str,eqV (.str y) (.str z)=(y==z):=λ_=>rfl;unfold inV;rw[List.any_map,xDr,xDj,xEw];constructor
 ·rintro⟨y,hy,h⟩;have h':(y==z)=true:=h;rw[<- eq_of_beq h']; exact hy
 ·exact λh=>⟨z,h,(e z).trans (beq_self_eq_true z)⟩
theorem st1 {t:Addr}{W a:Str}{rest:List V}{y:Option V}{H:Hp}{Q:VK}(ht:H t=some (.tup (.str W::.str a::rest)))(hl:rest.length<=1)(h0:atI (.str W::.str a::rest) 0=some (.str W))(q:∀ t' H',aM H H'->H' t'=some (.tup (.str W::.str "nodeed"::rest))->Q (.ref t') H') :
  tOp (aOv K) (aPq (iT (tOp (aSs K) (qE 0) (tC (.int 0))) (iT (tC (.str "nodeed")) qF))) (tSl (aSr K) (qE 0) (aOj (tC (.int 2))) aCb) [some (.ref t),y] H Q:=by
 refine⟨_,rfl,t,_,_,.str W,rfl,rfl,SqT.of ht,h0,by show 2<=sizeLine; decide,λp hp=>⟨_,rfl,2,rfl,t,_,rfl,SqT.of (smu hp _ _ ht),?_,λp2 hp2=>?_⟩⟩
 ·rw[show (2:Int)=((2:Nat):Int) from rfl,HT.sIx_nat]
  intro z
  have:=z.1
  simp only[List.length_cons] at this;omega
 ·rw[aWw] at *;have e1:=smu (o:=.tup rest) hp2 _ _ (show (upd H p (.tup [.str W,.str "nodeed"])) p=_ from aD)
  refine⟨p,p2,[.str W,.str "nodeed"],rest,rfl,rfl,SqT.of e1,SqT.of aD,(λz=>nomatch z),?_,λhr=>?_,λhr p3 hp3=>?_⟩
  ·exact xAs (show 2+rest.length<=3 by omega) (by decide)
  ·subst hr;exact q p _ ((smu hp).trans (smu hp2)) e1
  ·exact q p3 _ ((smu hp).trans ((smu hp2).trans (smu hp3))) aD
theorem aAn {f:Addr}{fd:FuncData}(F:Fun K "_law_strange" "_law_strange" rP f fd):aP P w K mg base CX0 1 f fd ["_law_words","_law_cell"] uB:=by
 refine F.ok aVd (λvs H Q E h=>?_) (λcdv A outer s H vs Q E hr h=>?_)
 ·obtain⟨t,c,k,rfl,_⟩:=h;rfl
 ·obtain⟨t,c,k,rfl,ht,hk,hnd,q⟩:=h
  refine⟨_,aJ (cM (iV (aX (show OpR _ _ (rIn K false) from aEn) (cQ dW (pv 0) aN (λ_ _=>rfl)) (cU (pac aL (pac aL aE))) (by with_unfolding_all rfl)) (hU (aX iX (bX dU (pv 1) aN) aN (bJ _)))).pt
    (aK (aQ (bX aDe (cU (pac (cQ dW (pv 0) aN (λ_ _=>rfl)) (pac aL aE))) (iL aHf (pv 0) (jT aN) jU)))) aZ)
   (aK (aQ (bX aDe (iL aHf (pv 0) jU (jT aN)) (cU (pac aL aE))))),?_⟩
  have fin:∀ k',Odd k k'->∀ H1,aM H H1->∀ t' H',aM H1 H'->H' t'=some (.tup (rV k').wl)->Q (.ref t') H':=λk' o H1 s1 t' H' s e=>q t' k' H' (s1.trans s) o e;cases k with
  | never a=>
   refine⟨_,rfl,t,_,_,.str "never",rfl,rfl,SqT.of ht,rfl,by show 2<=sizeLine; decide,λp hp=>⟨p,_,rfl,.inr (SqT.of aD),rfl,rfl,_,rfl,gK (λ_=>?_) (λz=>xAu (show inV (.str "never") ((["never","most"]:List Str).map V.str)=true by rw[wJ]; decide +kernel) z)⟩⟩;exact st1 (smu hp _ _ ht) (xBu 1) rfl (fin (.never "nodeed") ⟨trivial,.head _,λz hz=>.inl (xAg.mp hz)⟩ _ (smu hp))
  | most a n=>
   refine⟨_,rfl,t,_,_,.str "most",rfl,rfl,SqT.of ht,rfl,by show 2<=sizeLine; decide,λp hp=>⟨p,_,rfl,.inr (SqT.of aD),rfl,rfl,_,rfl,gK (λ_=>?_) (λz=>xAu (show inV (.str "most") ((["never","most"]:List Str).map V.str)=true by rw[wJ]; decide +kernel) z)⟩⟩;exact st1 (smu hp _ _ ht) (xAh 1) rfl (fin (.most "nodeed" n) ⟨hk,.head _,λz hz=>.inl (xAg.mp hz)⟩ _ (smu hp))
  | two v a b=>
   have ha:a≠"nodeed":=λe=>hnd (e▸.head _);have hb:b≠"nodeed":=λe=>hnd (e▸.tail _ (.head _));refine⟨_,rfl,t,_,_,.str (wn v),rfl,rfl,SqT.of ht,rfl,by show 2<=sizeLine; decide,λp hp=>⟨p,_,rfl,.inr (SqT.of aD),rfl,rfl,_,rfl,gK (λz=>xAu z (show ¬ inV (.str (wn v)) ((["never","most"]:List Str).map V.str)=true by rw[wJ]; exact (show ∀ v:_root_.Fin 4,¬ decide (wn v∈(["never","most"]:List Str))=true by decide +kernel) v)) (λ_=>?_)⟩⟩;refine⟨_,rfl,_,_,rfl,rfl,(by show (0:Int)<2; decide),rfl,_,rfl,gK (λ_=>?_) (λ_=>?_)⟩
   ·exact st1 (smu hp _ _ ht) (xAh 1) rfl (fin (.two v "nodeed" b) ⟨Ne.symm hb,.head _,λz hz=>(xAk.mp hz).imp id λh=>.tail _ h⟩ _ (smu hp))
   ·refine⟨_,rfl,_,rfl,t,_,rfl,SqT.of (smu hp _ _ ht),?_,λp2 hp2=>⟨by show 1<=sizeLine; decide,λp3 hp3=>?_⟩⟩
    ·rw[show (2:Int)=((2:Nat):Int) from rfl,HT.sIx_nat]
     exact λz=>xAu z.2 (by show ¬ min 2 3=3; decide)
    ·have e2:=smu (o:=.tup [.str "nodeed"]) hp3 _ _ (show (upd (upd H p _) p2 (.tup (jZ (rV (.two v a b)).wl none (some 2)))) p2=_ from aD)
     rw[show (rV (.two v a b)).wl=[.str (wn v),.str a,.str b] from rfl,aTp] at e2
     refine⟨p2,p3,[.str (wn v),.str a],[.str "nodeed"],rfl,rfl,SqT.of e2,SqT.of aD,(λz=>nomatch z),by show 3<=sizeLine; decide,(λz=>nomatch z),λ_ p4 hp4=>?_⟩;exact q p4 (.two v a "nodeed") _ ((smu hp).trans ((smu hp2).trans ((smu hp3).trans (smu hp4)))) ⟨ha,.tail _ (.head _),λz hz=>(xAk.mp hz).elim (λe=>.inr (e▸.head _)) λh=>.inl (xAg.mp h)⟩ aD
theorem aP.ex {P:Program}{w:World}{K:xAb}{mg:xSO}{base:Heap}{CX:CXT}{k0:Nat}{f:Addr}{fd:FuncData}{ps:List Str}{sp:Nat->Sp}(G:∀ n,aP P w K mg base CX (k0+n) f fd ps (sp n))(N:Nat):aP P w K mg base CX (k0+N) f fd ps (λvs H Q E=>∃ n,n<=N/\sp n vs H Q E):=
 ⟨λvs H Q E ⟨n,_,z⟩=>(G n).len vs H Q E z,λA outer s H args us vs Q E hr e0 hb r ⟨n,hn,z⟩=>(G n).run A outer s H args us vs Q E (hr.mono (by omega)) e0 hb r z⟩
def gO:(j:Nat)->RK->Rl j
 | 0,k=>k
 | j+1,k=>.inr [gO j k]
theorem iZ:∀ (j:Nat) (k:RK),cG j (gO j k)=k.about
 | 0,_=>rfl
 | j+1,k=>by
  show [gO j k].flatMap (cG j)=_;rw[xGw,List.flatMap_nil,xBk,iZ j k]
theorem jK:∀ (j:Nat){k:RK},k.Wf->WfR j (gO j k)
 | 0,_,h=>h
 | j+1,k,h=>⟨by show 1<=4; decide,λr hr=>xAg.mp hr▸jK j h⟩
theorem kC:∀ (j:Nat) (k:RK),fJ j (gO j k)=j
 | 0,_=>rfl
 | j+1,k=>by
  show 1+([gO j k].map (fJ j)).foldl max 0=j+1;rw[xBx,xFu,xEs,List.foldl_nil,kC j k,Nat.zero_max];omega
inductive aCr (Cs:Nat->Addr)(vs:List V)(H:Hp)(Q:VK)(E:XK):Prop
 | mk (x:Addr)(m:Nat)(k:RK)(h0_:vs=[.ref x,.int m])(h1_:m<=3)(h2_:eK Cs H x k)(h3_:k.Wf)(h4_:∀ y H',aM H H'->RAt Cs H' m y (gO m k)->Q (.ref y) H')
inductive aCo (Cs:Nat->Addr)(vs:List V)(H:Hp)(Q:VK)(E:XK):Prop
 | mk (n:Addr)(ss:List Str)(h0_:vs=[.ref n])(h1_:H n=some (.lst (ss.map V.str)))(h4_:∀ l as H',aM H H'->H l=none->H' l=some (.lst (as.map V.ref))->Paired (λa z=>eK Cs H' a (.most z 6)) as (ss.take 3)->Q (.ref l) H')
inductive aGy (vs:List V)(H:Hp)(Q:VK)(E:XK):Prop
 | mk (n:Addr)(c:Int)(ss:List Str)(h0_:vs=[.ref n,.int c])(h1_:H n=some (.lst (ss.map V.str)))(h2_:1<=ss.length)(h3_:0<=c)(h4_:∀ H',aM H H'->Q (.bl true) H')
theorem aLd (xs:List V)(n:Nat):jZ xs none (some (n:Int))=xs.take n:=by
 unfold jZ;rw[HT.sIx_none,HT.sIx_nat,Nat.sub_zero,List.drop_zero]
 by_cases h:n<=xs.length
 ·rw[xFt h]
 ·rw[Nat.min_eq_right (by omega),xCy (xAh _),xCy (by omega)]
section
variable {P:Program}{w:World}{K:xAb}{mg:xSO}{base:Heap}{Cs:Nat->Addr}{cT cN:Addr}
theorem mU {n:Nat}{X dX p:Addr}{as:List Addr}{l:List (Rl n)}{H:Hp}{Q:VK}{E:XK}(hX:H X=none)(hdX:H dX=none)(hp:H p=some (.lst (as.map V.ref)))(hP:Paired (RAt Cs H n) as l)(hwf:∀ r∈l,WfR n r)(h4:l.length<=4)(h3:fJ (n+1) (.inr l)<=3)
  (q:∀ H',aM H H'->RAt Cs H' (n+1) X (.inr l)->Q .non H'):vJ Cs cT n [.ref X,.ref p] (upd (upd H dX (.own X)) X (.ins (Cs 6) dX [])) Q E:=by
 have k1:aM H (upd (upd H dX (.own X)) X (.ins (Cs 6) dX [])):=λb o e=>by rw[aH (aI e hX),aH (aI e hdX)]; exact e
 refine⟨X,dX,p,as,l,rfl,aD,k1 _ _ hp,L2.Paired.mapP hP λ_ _ z=>z.same k1,hwf,λhm=>xAu hm (by omega),λ_ _ p' H' sb e1 e2=>?_⟩;have s:aM H H':=λb o e=>sb b o (aI e hX) (k1 b o e);exact q H' s ⟨dX,p',as,e1,e2,L2.Paired.mapP hP λ_ _ z=>z.same s⟩
abbrev zR (Cs:Nat->Addr)(cT:Addr):Sp:=λvs H Q E=>∃ n,n<=4/\vJ Cs cT n vs H Q E
abbrev NDe:List Str:=["_law_rule","_law_many","_law_k"]
theorem aQf:aO NDe ["_law_rule","_law_many"] (aA aHr):=xfs
theorem aJp {f fI:Addr}{fd fdI:FuncData}(F:Fun K "_law_deep" "_law_deep" aHr f fd)(T:Txt K mg)(A1:CkC P w K mg base (CXE P w) 7 "All" (Cs 6) fI fdI ["self","rules"] (zR Cs cT)):aP P w K mg base CX0 9 f fd ["_law_rule","_law_many"] (aCr Cs):=by
 refine F.ok aQf (λvs H Q E h=>?_) (λcdv A outer s H vs Q E hr h=>?_)
 ·obtain⟨x,m,k,rfl,_⟩:=h;rfl
 ·obtain⟨x,m,k,rfl,hm,hx,hk,q⟩:=h;refine⟨_,aJ (eV PassesOwn.never rfl (lP rfl T.range (pac (pv 1) aE)) (aW (i:=2) aQf.nd rfl (xBg rfl)) (aK (bO (i:=0) aQf.nd rfl (xBg rfl) (cL A1.k A1.G hr rfl A1.m A1.b .nil gJ (pac (aV (pac (pv 0) aE)) aE))))) (aK (aQ (pv 0))),?_⟩;refine⟨_,rfl,(m:Int),rfl,by omega,by omega,?_⟩;refine aFv (n:=m) (λi σ H'=>∃ y u,σ=[some (.ref y),some (.int m),u]/\RAt Cs H' i y (gO i k)/\aM H H') ⟨x,none,rfl,hx,aM.refl H⟩ ?_ ?_
  ·rintro i σ H' hi ⟨y,u,rfl,h1,h2⟩;refine⟨_,rfl,by show 1<=sizeLine; decide,λp hp X dX hX hdX _=>⟨i,by omega,?_⟩⟩;refine mU (as:=[y]) (l:=[gO i k]) hX hdX aD (.cons (h1.same (smu hp)) .nil) (λr hr=>xAg.mp hr▸jK i hk) (by show 1<=4; decide) ?_ λH2 s2 R2=>⟨rfl,X,_,rfl,R2,h2.trans ((smu hp).trans s2)⟩
   have:=kC (i+1) k
   show fJ (i+1) (gO (i+1) k)<=3;omega
  ·rintro σ H' ⟨y,u,rfl,h1,h2⟩;exact⟨_,rfl,q y H' h2 h1⟩
abbrev ndg:List Str:=["_law_name"]
theorem aVt:aO ["_law_names"] ["_law_names"] (aA vP):=xfs
theorem aJm {f fO:Addr}{fd fdO:FuncData}(F:Fun K "_law_great" "_law_great" vP f fd)(MO:CkC P w K mg base (CXE P w) 2 "Most" (Cs 1) fO fdO ["self","deed","many"] (qM (Cs 1) cN)):aP P w K mg base CX0 4 f fd ["_law_names"] (aCo Cs):=by
 refine F.ok aVt (λvs H Q E h=>?_) (λcdv A outer s H vs Q E hr h=>?_)
 ·obtain⟨n,ss,rfl,_⟩:=h;rfl
 ·obtain⟨n,ss,rfl,hn,q⟩:=h
  refine⟨_,aK (aQ (gI (N':=ndg) (nown:=1) (js:=[]) rfl xbs (dF (aA vP) ["_law_names"] rfl rfl (by decide +kernel))
    ⟨λ_ _ _ _=>aW (i:=0) (show List.Nodup ndg by decide +kernel) rfl (xBg rfl) (.inr rfl),λ_ _ _ _=>fS,λ_ _ _ _=>cL MO.k MO.G hr (by rfl) MO.m MO.b .nil gJ (pac (pv 0) (pac aN aE))⟩
    (dC (iL nK (pv 0) jU (jT aN))))),?_⟩
  refine⟨_,rfl,_,rfl,n,_,rfl,SqL.of hn,λp hp=>?_⟩;rw[show (3:Int)=((3:Nat):Int) from rfl,aLd,<- xHw]
  have s1:=smu (o:=.lst ((ss.take 3).map V.str)) hp;have e1:(upd H p (.lst ((ss.take 3).map V.str))) p=_:=aD;generalize upd H p (.lst ((ss.take 3).map V.str))=H1 at s1 e1 ⊢;have h3:(ss.take 3).length<=3:=by rw[xBb]; omega
  generalize ss.take 3=ts at *;refine⟨p,rfl,⟨_,SqL.of e1⟩,λD hD=>iP (xs:=ts.map V.str) (λi σ' H'=>∃ (u:Option V) (as:List Addr),σ'=[u]/\H' D=some (.lst (as.map V.ref))/\Paired (λa z=>eK Cs H' a (.most z 6)) as (ts.take i)/\aM H1 H') ?_ ?_ ?_ ?_⟩
  ·exact⟨none,[],rfl,aD,.nil,smu hD⟩
  ·rintro i σ H' _ ⟨u,as,rfl,a1,a2,a3⟩;exact SqL.of (a3 _ _ e1)
  ·rintro i v σ H' hv ⟨u,as,rfl,a1,a2,a3⟩;rw[xAj] at hv;cases hz:ts[i]? with
   | none=>rw[hz] at hv; cases hv
   | some z=>
    rw[hz] at hv;cases hv;have hi:=(xAd.mp hz).1;refine⟨_,rfl,λX dX hX hdX _=>⟨X,dX,z,.int 6,rfl,.int 6,aD,λm hm _ H2 sb hx=>⟨rfl,?_⟩,λh=>xAu h (by decide)⟩⟩;obtain rfl:m=6:=by have:=V.int.inj hm; omega
    have k1:aM H' H2:=λb o e=>sb b o (aI e hX) (by rw[aH (aI e hX),aH (aI e hdX)]; exact e);have la:as.length=i:=by have:=Paired.length a2; rw[xBb] at this; omega
    have st:∀ b o,H2 b=some o->Rq o->o≠.lst (as.map V.ref)->(upd H2 D (.lst (as.map V.ref++[.ref X]))) b=some o:=λb o e _ n=>by rw[aH (λw=>by rw[w,k1 _ _ a1] at e; exact n (xBj e).symm)]; exact e
    refine⟨_,k1 _ _ a1,bS (by rw[xAa]; omega),some (.str z),as++[X],rfl,by rw[aD,xAx]; rfl,?_,λb o e=>?_⟩
    ·rw[xBo,hz];refine Paired.snoc (L2.Paired.mapP a2 λa y ⟨dx,h⟩=>⟨dx,st _ _ (k1 _ _ h) trivial (λz=>nomatch z)⟩) ⟨dX,st _ _ hx trivial (λz=>nomatch z)⟩
    ·rw[aH (aI e hD)];exact k1 _ _ (a3 _ _ e)
  rintro σ H2 ⟨u,as,rfl,a1,a2,a3⟩;rw[xAa,xBa] at a2;exact q D as H2 (s1.trans a3) (s1.free hD) a1 a2
end
theorem atV {xs:List V}{i:Int}(h0:0<=i)(h1:i<(xs.length:Int)):atI xs i=some (xs.getD i.toNat .non):=by
 have:=gL id xs .non h0 h1
 rwa [List.map_id] at this
abbrev yQ:List V:=[.str (wn 0),.str (wn 1),.str (wn 2),.str (wn 3)]
def aAw:List V:=[.bl true,.bl false,.non,.str "3"]
def aBp (c:Int):List V:=[.int 7,.int (-1),.int (8+c%99),.int (-c)]
theorem sP {a b:Str}{p q:Prop}(h:a=b)(x:q):if (!decide (V.str a=V.str b))=true then p else q:=by rw[h,xAm rfl]; exact x
theorem aNq {c:Int}(hc:0<=c):∃ i:Int,(aBp c).getD (c%4).toNat .non=.int i/\isT (.int i)=false:=by
 have g4:=cV c (m:=4) (by decide);have g99:=cV c (m:=99) (by decide)
 have no:∀ i:Int,i<0\/6<i->isT (.int i)=false:=λi h=>by
  show (decide (0<=i)&&decide (i<=6))=false;rcases h with h | h
  ·rw[xBc (by omega)]; rfl
  ·rw[xBc (show ¬ i<=6 by omega),Bool.and_false]
 obtain⟨m,em⟩:∃ m:Nat,(c%4).toNat=m:=⟨_,rfl⟩;rw[em]
 match m,em with
 | 0,_=>exact⟨7,rfl,no _ (.inr (by decide))⟩
 | 1,_=>exact⟨-1,rfl,no _ (.inl (by decide))⟩
 | 2,_=>exact⟨8+c%99,rfl,no _ (.inr (by omega))⟩
 | 3,em=>exact⟨-c,rfl,no _ (.inl (by omega))⟩
 | m+4,em=>omega
section
variable {P:Program}{w:World}{K:xAb}{mg:xSO}{base:Heap}{Cs:Nat->Addr}{cT cN:Addr}
abbrev NWh:List Str:=["_law_names","_law_cell","_law_same","_law_twice","_law_far","_law_odd"]
theorem aHi:aO NWh ["_law_names","_law_cell"] (aA aHl):=xfs
theorem aMr {f fM:Addr}{fd fdM:FuncData}(F:Fun K "_law_when_made" "_law_when_made" aHl f fd)(T:Txt K mg)
  (GM:aP P w K mg base CX0 5 fM fdM ["_law_words"] aCi)(kM:keepIn K (.ref fM)=true)(bM:aS K fdM ["_law_words"] [])(mM:mg "_law_made" = some (.ref fM)):aP P w K mg base CX0 6 f fd ["_law_names","_law_cell"] aGy:=by
 refine F.ok aHi (λvs H Q E h=>?_) (λcdv A outer s H vs Q E hr h=>?_)
 ·obtain⟨n,c,ss,rfl,_⟩:=h;rfl
 ·obtain⟨n,c,ss,rfl,hn,hl,hc,q⟩:=h
  refine⟨_,aJ (bO (i:=2) aHi.nd rfl (xBg rfl) (cQ dD (pv 0) (bX dU (bX gU (pv 1) aN) (bV cE (by rfl) T.len Bo.len (pac (pv 0) aE))) (λ_ _=>rfl)))
   (aJ (bO (i:=3) aHi.nd rfl (xBg rfl) (cU (pac (cQ dD (aV (pac aL (pac aL (pac aL (pac aL aE))))) (bX dU (pv 1) aN) (λ_ _=>rfl)) (pac (pv 2) (pac (pv 2) aE)))))
   (aJ (bO (i:=4) aHi.nd rfl (xBg rfl) (cQ dD (aV (pac aN (pac (aOx aGp aN) (pac (bX iN aN (bX dU (pv 1) aN)) (pac (aOx aGp (pv 1)) aE))))) (bX dU (pv 1) aN) (λ_ _=>rfl)))
   (aJ (bO (i:=5) aHi.nd rfl (xBg rfl) (cQ dD (aV (pac gN (pac gN (pac jB (pac aL aE))))) (bX dU (bX gU (pv 1) aN) aN) (λ_ _=>rfl)))
   (aJ (cM (iV (aX kE (aR GM hr (by rfl) mM kM bM .nil aY (pac (pv 3) aE)) aL (bJ _)) (hU (aX kE (aR GM hr (by rfl) mM kM bM .nil aY (pac (cU (pac aL (pac (pv 2) (pac (pv 4) aE)))) aE)) aL (bJ _)))).pt (aK (aQ gN)) aZ)
   (aJ (cM (aX kE (aR GM hr (by rfl) mM kM bM .nil aY (pac (cU (pac aL (pac (pv 2) (pac (pv 5) aE)))) aE)) aL (bJ _)) (aK (aQ gN)) aZ)
   (aK (aQ (iA iX (aR GM hr (by rfl) mM kM bM .nil aY (pac (cU (pac aL (pac (pv 2) (pac (bX dU (pv 1) aN) aE)))) aE)) aL (bJ _))))))))),?_⟩
  have lm:((ss.map V.str).length:Int)=ss.length:=by rw[xAa]
  have gi:=cV (c/4) (m:=(ss.length:Int)) (by omega);have g4:=cV c (m:=4) (by decide);have g74:=cV (c/7) (m:=4) (by decide);have g7:=cV c (m:=7) (by decide);have g99:=cV c (m:=99) (by decide);refine⟨_,rfl,_,rfl,_,_,rfl,rfl,⟨by decide,by decide⟩,_,rfl,n,_,rfl,.inl (SqL.of hn),_,_,rfl,rfl,(by rw[lm]; omega),n,_,_,.str (ss.getD (c/4%(ss.length:Int)).toNat ""),rfl,rfl,SqL.of hn,by rw[lm]; exact gL V.str ss "" gi.1 gi.2,?_⟩;generalize ss.getD (c/4%(ss.length:Int)).toNat ""=a;refine⟨by show 4<=sizeLine; decide,λp1 hp1=>⟨_,rfl,_,_,rfl,rfl,(by show (0:Int)<4; decide),p1,_,_,yQ.getD (c%4).toNat .non,rfl,rfl,SqL.of aD,atV (xs:=yQ) g4.1 g4.2,_,rfl,_,rfl,by show 3<=sizeLine; decide,λt ht=>?_⟩⟩
  obtain⟨v,hv⟩:∃ v:_root_.Fin 4,yQ.getD (c%4).toNat .non=.str (wn v):=by
   have hlt:(c%4).toNat<4:=by omega
   exact⟨⟨_,hlt⟩,(show ∀ v:_root_.Fin 4,yQ.getD v.1 .non=.str (wn v) by decide +kernel) ⟨_,hlt⟩⟩
  rw[hv];have s1:aM H (upd (upd H p1 (.lst yQ)) t (.tup (RW.two v a a).wl)):=(smu hp1).trans (smu ht);have e1:(upd (upd H p1 (.lst yQ)) t (.tup (RW.two v a a).wl)) t=_:=aD;show wY _ _ _ _ (upd (upd H p1 (.lst yQ)) t (.tup (RW.two v a a).wl));generalize upd (upd H p1 (.lst yQ)) t (.tup (RW.two v a a).wl)=H1 at s1 e1 ⊢;refine⟨1,rfl,_,rfl,_,_,rfl,rfl,(by show (0:Int)<99; decide),_,_,rfl,rfl,_,rfl,c,rfl,by show 4<=sizeLine; decide,λp2 hp2=>⟨_,rfl,_,_,rfl,rfl,(by show (0:Int)<4; decide),p2,_,_,(aBp c).getD (c%4).toNat .non,rfl,rfl,SqL.of aD,atV (xs:=aBp c) g4.1 g4.2,?_⟩⟩;obtain⟨i,hi,hi6⟩:=aNq hc;rw[hi];have s2:aM H (upd H1 p2 (.lst (aBp c))):=s1.trans (smu hp2);have e2:=smu (o:=.lst (aBp c)) hp2 _ _ e1;show wY _ _ _ _ (upd H1 p2 (.lst (aBp c)));generalize upd H1 p2 (.lst (aBp c))=H2 at s2 e2 ⊢;refine⟨by show 4<=sizeLine; decide,λp3 hp3=>⟨_,rfl,_,_,rfl,rfl,⟨by decide,by decide⟩,_,_,rfl,rfl,(by show (0:Int)<4; decide),p3,_,_,aAw.getD (c/7%4).toNat .non,rfl,rfl,SqL.of aD,atV (xs:=aAw) g74.1 g74.2,?_⟩⟩
  obtain⟨o,ho,ht,ho6⟩:∃ o,aAw.getD (c/7%4).toNat .non=o/\Tm o/\isT o=false:=by
   obtain⟨m,em⟩:∃ m:Nat,(c/7%4).toNat=m:=⟨_,rfl⟩;rw[em]
   match m,em with
   | 0,_=>exact⟨_,rfl,.bl _,rfl⟩
   | 1,_=>exact⟨_,rfl,.bl _,rfl⟩
   | 2,_=>exact⟨_,rfl,.non,rfl⟩
   | 3,_=>exact⟨_,rfl,.str _,rfl⟩
   | m+4,em=>omega
  rw[ho];have s3:aM H (upd H2 p3 (.lst aAw)):=s2.trans (smu hp3);have e3:=smu (o:=.lst aAw) hp3 _ _ e2;show wY _ _ _ _ (upd H2 p3 (.lst aAw));generalize upd H2 p3 (.lst aAw)=H3 at s3 e3 ⊢
  have no:∀ x,isT x=false->(RW.most a x).rk=none:=λx hx=>by
   cases x with
   | int n=>show (if isT (.int n)=true then some (RK.most a n.toNat) else none)=_; rw[xAw (by rw[hx]; decide)]
   | _=>rfl
  refine⟨_,rfl,t,.two v a a,rfl,e3,trivial,λH4 s4=>⟨rfl,_,rfl,sP (by rw[show (RW.two v a a).rk=none from xAz rfl]; rfl) ?_⟩⟩
  refine⟨_,rfl,_,rfl,by show 3<=sizeLine; decide,λt2 ht2=>⟨t2,.most a (.int i),rfl,aD,.int i,λH5 s5=>⟨rfl,_,rfl,sP (by rw[no _ hi6]; rfl) ?_⟩⟩⟩;refine⟨_,rfl,_,rfl,by show 3<=sizeLine; decide,λt3 ht3=>⟨t3,.most a o,rfl,aD,ht,λH6 s6=>⟨rfl,_,rfl,sP (by rw[no _ ho6]; rfl) ?_⟩⟩⟩;refine⟨_,rfl,_,rfl,_,_,rfl,rfl,(by show (0:Int)<7; decide),by show 3<=sizeLine; decide,λt4 ht4=>⟨t4,.most a (.int (c%7)),rfl,aD,.int _,λH7 s7=>⟨rfl,?_⟩⟩⟩;have yes:isT (.int (c%7))=true:=by show (decide (0<=c%7)&&decide (c%7<=6))=true; rw[xAm g7.1,xAm (by omega)]; rfl
  have:=q H7 (s3.trans (s4.trans ((smu ht2).trans (s5.trans ((smu ht3).trans (s6.trans ((smu ht4).trans s7)))))))
  rw[show (RW.most a (.int (c%7))).rk=some (.most a (c%7).toNat) from xAz yes,show decide (V.str (if (some (RK.most a (c%7).toNat)).isSome=true then "" else "rule")=V.str "")=true from xAm rfl]
  exact this
end
end
end K34
namespace K34
open PySem L2 Ky PySem.W
seal L2.PE L2.PS L2.PSs L2.PA L2.PT L2.PW L2.PG L2.PI L2.PTs L2.PO L2.OpR L2.IxR L2.CallR L2.MtM L2.MtR
theorem nZ {α:Type} [DecidableEq α]:∀ (l m:List α),l.Nodup->(∀ z∈l,z∈m)->l.length<=m.length
 | [],m,_,_=>xBu _
 | x::r,m,hd,hs=>by
  have hn:=xCi.mp hd;have h1:=nZ r (m.erase x) hn.2 (λz hz=>(List.mem_erase_of_ne (λ(e:z=x)=>hn.1 (e▸hz))).mpr (hs z (xBi _ hz)));have hx:=hs x (xBm ..);have h2:=xIf hx;rw[xFe hx] at h1;simp only[List.length_cons];omega
theorem aTs {m:MW}{S:List Str}(h:MOk S m):(cH [m] S).length<=60:=by
 have:=nZ _ ((unl m.rs []).map λz=>[z]) (hG (ms:=[m]) (S:=S)) λr hr=>by
  have R:=sZ (λx hx=>by rw[xAg.mp hx]; exact h.nm) r hr;have hl:1=r.length:=R.len
  match r,hl with
  | [z],_=>exact xAo.mpr ⟨z,oS.mpr (R.mem 0 m z rfl rfl).2,rfl⟩
 rw[xAa] at this;exact xAs this h.few
theorem aOz {a z:Str}(h:z∈(RK.most a 6).mw.rs):z∈(List.range 7).map rN:=by
 rcases uP h with rfl | h | ⟨x,hx,h⟩
 ·exact xAo.mpr ⟨0,by decide,rfl⟩
 ·exact h
 ·obtain⟨i,hi,rfl⟩:=xAo.mp hx
  have:=xCa.mp hi
  rcases h with rfl | rfl
  ·exact xAo.mpr ⟨i,xCa.mpr (by omega),rfl⟩
  ·exact xAo.mpr ⟨i+1,xCa.mpr (by omega),rfl⟩
theorem aTr {a b:Str}{S:List Str}:(cH [(RK.most a 6).mw,(RK.most b 6).mw] S).length<=60:=by
 have nm:∀ a,(RK.most a 6).mw.rs.all aU=true:=λa=>(rW (.most a 6) (show 6<=6 by decide)).nm
 have:=nZ _ (((List.range 7).map rN).flatMap λz=>((List.range 7).map rN).map λy=>[z,y]) (hG (ms:=[(RK.most a 6).mw,(RK.most b 6).mw]) (S:=S)) λr hr=>by
  have R:=sZ (λx hx=>by rcases xAk.mp hx with rfl | hx; exact nm a; rw[xAg.mp hx]; exact nm b) r hr;have hl:2=r.length:=R.len
  match r,hl with
  | [z,y],_=>exact xBl.mpr ⟨z,aOz (R.mem 0 _ z rfl rfl).2,xAo.mpr ⟨y,aOz (R.mem 1 _ y rfl rfl).2,rfl⟩⟩
 exact xAs this (by decide +kernel)
theorem aNs {ds:List Dr}(ap:Ky.Apart ds){x:Dr}(h:x∈ds):lB ds x.1 x.2.1=some x.2.2:=by
 unfold lB;cases e:ds.find? (λy=>decide (y.1=x.1)&&decide (y.2.1=x.2.1)) with
 | none=>exact xAu (List.find?_eq_none.mp e x h) (by simp)
 | some y=>
  have hy:=xEy e;have hp:=List.find?_some e;rw[xBh] at hp;obtain⟨i,hi,ei⟩:=xDu.mp h;obtain⟨j,hj,ej⟩:=xDu.mp hy
  have inj:i=j:=by
   have h1:(ds.map λx=>(x.1,x.2.1))[i]?=some (x.1,x.2.1):=by rw[xAj,xAi hi,ei]; rfl
   have h2:(ds.map λx=>(x.1,x.2.1))[j]?=some (y.1,y.2.1):=by rw[xAj,xAi hj,ej]; rfl
   exact (xEe (by rw[xAa]; exact hi) ap).mp (by rw[h1,h2,xAt hp.1,xAt hp.2])
  subst inj;rw[ei] at ej;rw[<- ej];rfl
theorem wL {a:Str}{i:Nat}(h:i<6):gZ (RK.most a 6).mw.ds (RK.most a 6).mw.kn (rN i) a=some (rN (i+1)):=by
 unfold gZ;rw[xAz ((gY (.most a 6) a).mpr (.head _))];exact aNs (x:=(rN i,a,rN (i+1))) (rW (.most a 6) (show 6<=6 by decide)).ap (xAo.mpr ⟨i,xCa.mpr h,rfl⟩)
theorem jH {a y z:Str}(h:y≠a):gZ (RK.most a 6).mw.ds (RK.most a 6).mw.kn z y=some z:=xAw λq=>h (xAg.mp ((gY (.most a 6) y).mp q))
theorem aTq {a b c:Str}{S:List Str}(hab:a≠b)(hac:a≠c)(hbc:b≠c)(ha:a∈S)(hb:b∈S)(hc:c∈S):60<(cH [(RK.most a 6).mw,(RK.most b 6).mw,(RK.most c 6).mw] S).length:=by
 refine Nat.lt_of_not_le λhle=>?_;have kn:∀ {y d:Str},y=d->y∈(RK.most d 6).mw.kn:=λ{y d} e=>(gY (.most d 6) y).mpr (e▸.head _)
 have g:∀ i,i<4->∀ j,j<4->∀ k,k<4->[rN i,rN j,rN k]∈cH [(RK.most a 6).mw,(RK.most b 6).mw,(RK.most c 6).mw] S:=by
  intro i
  induction i with
  | zero=>
   intro _ j
   induction j with
   | zero=>
    intro _ k
    induction k with
    | zero=>intro _; exact lF
    | succ k ih=>exact λhk=>lD hle (ih (by omega)) hc (rA (fs:=[rN 0,rN 0,rN (k+1)]) (xBl.mpr ⟨_,.tail _ (.tail _ (.head _)),kn rfl⟩) (by show [gZ _ _ _ _,gZ _ _ _ _,gZ _ _ _ _]=[_,_,_]; rw[jH (Ne.symm hac),jH (Ne.symm hbc),wL (by omega)]))
   | succ j ih=>exact λhj k hk=>lD hle (ih (by omega) k hk) hb (rA (fs:=[rN 0,rN (j+1),rN k]) (xBl.mpr ⟨_,.tail _ (.head _),kn rfl⟩) (by show [gZ _ _ _ _,gZ _ _ _ _,gZ _ _ _ _]=[_,_,_]; rw[jH (Ne.symm hab),wL (by omega),jH hbc]))
  | succ i ih=>exact λhi j hj k hk=>lD hle (ih (by omega) j hj k hk) ha (rA (fs:=[rN (i+1),rN j,rN k]) (xBl.mpr ⟨_,.head _,kn rfl⟩) (by show [gZ _ _ _ _,gZ _ _ _ _,gZ _ _ _ _]=[_,_,_]; rw[wL (by omega),jH hab,jH hac]))
 have:=nZ ((List.range 4).flatMap λi=>(List.range 4).flatMap λj=>(List.range 4).map λk=>[rN i,rN j,rN k]) _ (by decide +kernel) λr hr=>by
  obtain⟨i,hi,hr⟩:=xBl.mp hr;obtain⟨j,hj,hr⟩:=xBl.mp hr;obtain⟨k,hk,rfl⟩:=xAo.mp hr;exact g i (xCa.mp hi) j (xCa.mp hj) k (xCa.mp hk)
 rw[show ((List.range 4).flatMap λi=>(List.range 4).flatMap λj=>(List.range 4).map λk=>[rN i,rN j,rN k]).length=64 by decide +kernel] at this;omega
theorem yR {S:List Str}{k:RK}(hk:k.Wf)(ha:∀ z∈k.about,z∈S):∀ j,wU S j (gO j k)/\¬ Ev S j (gO j k) none
 | 0=>⟨trivial,λh=>nomatch h⟩
 | j+1=>by
  have ih:=yR hk ha j;refine⟨λr hr=>xAg.mp hr▸ih,?_⟩;rintro (⟨h,_⟩ | ⟨_,_,r,hr,h⟩ | ⟨_,ms,hp,⟨h,_⟩ | ⟨_,_,_,h⟩⟩)
  ·cases h
  ·exact ih.2 (xAg.mp hr▸h)
  ·match ms,hp with
   | [m],.cons e .nil=>exact xAu (aTs (aDp (jK j hk) (by rw[iZ]; exact ha) e)) (by omega)
  ·cases h
theorem aAk {S:List Str}:∀ {l:List (Rl 0)}{ms:List MW},Paired (λr m=>Ev S 0 r (some m)) l ms->ms=l.map RK.mw
 | _,_,.nil=>rfl
 | k::l,_::_,.cons e t=>by
  rw[aAk t];cases e;rfl
theorem aPf {S:List Str}(l:List (Rl 0)):wU S 1 (.inr l):=λ_ _=>⟨trivial,λh=>nomatch h⟩
theorem aFz {S:List Str}{a b:Str}:¬ Ev S 1 (.inr ([.most a 6,.most b 6]:List RK)) none:=by
 rintro (⟨h,_⟩ | ⟨_,_,r,hr,h⟩ | ⟨_,ms,hp,⟨h,_⟩ | ⟨_,_,_,h⟩⟩)
 ·cases h
 ·cases h
 ·rw[aAk hp] at h;exact xAu (aTr (a:=a) (b:=b) (S:=S)) (Nat.not_le.mpr h)
 ·cases h
theorem aFy {S:List Str}{a b c:Str}(hab:a≠b)(hac:a≠c)(hbc:b≠c)(ha:a∈S)(hb:b∈S)(hc:c∈S){m:MW}:¬ Ev S 1 (.inr ([.most a 6,.most b 6,.most c 6]:List RK)) (some m):=by
 rintro (⟨h,_⟩ | ⟨_,h,_⟩ | ⟨_,ms,hp,⟨_,h⟩ | ⟨h,_⟩⟩)
 ·cases h
 ·cases h
 ·cases h
 ·rw[aAk hp] at h;exact xAu (aTq hab hac hbc ha hb hc) (Nat.not_lt.mpr h)
section
variable {C Pr x dd rr:Addr}{Cs:Nat->Addr}{n:Nat}{r:Rl n}{S row:List Str}{H:Hp}{Q:VK}{E:XK}
structure Ask (C Pr:Addr)(Cs:Nat->Addr)(n:Nat)(x dd rr:Addr)(r:Rl n)(S row:List Str)(H:Hp):Prop where
 R:RAt Cs H n x r
 wf:WfR n r
 le:n<=4
 sh:dR (cG n r)
 W:WAt C H dd (wts S 1 [])
 SO:SOk S
 T:Tab dI dH Pr H
 rw:H rr=some (.lst (row.map V.str))
 rs:dR row
abbrev aOf (C Pr:Addr)(Cs:Nat->Addr):Sp:=λvs H Q E=>∃ n,n<=4/\aCt C Pr Cs n vs H Q E
theorem Ask.bad (A:Ask C Pr Cs n x dd rr r S row H)(hb:¬ ∀ z∈cG n r,z∈S)(q:∀ f H',aM (off H Pr) H'->H f=none->Tab dI dH Pr H'->H' f=some (.lst ((["deed","deed"]:List Str).map V.str))->Q (.ref f) H'):aOf C Pr Cs [.ref x,.ref dd,.ref rr] H Q E:=by
 have o:∀ {row a},Oc S n r row a->a="deed":=λ{row a} h=>h.elim (·.1) λh=>h.elim (λh=>xAu h.2.1 hb) λh=>xAu h.2.1 hb;exact⟨n,A.le,x,dd,rr,r,S,row,rfl,A.R,A.wf,A.le,A.sh,A.W,A.SO,A.T,λz=>xAu z hb,A.rw,A.rs,λf a b H' oa ob s hf T e=>q f H' s hf T (by rw[e,o oa,o ob]; rfl)⟩
theorem Ask.many (A:Ask C Pr Cs n x dd rr r S row H)(hg:∀ z∈cG n r,z∈S)(hr:∀ z∈row,z∈S)(hF:wU S n r)(hn:∀ m,¬ Ev S n r (some m))(q:∀ f H',aM (off H Pr) H'->H f=none->Tab dI dH Pr H'->H' f=some (.lst ((["many","many"]:List Str).map V.str))->Q (.ref f) H'):aOf C Pr Cs [.ref x,.ref dd,.ref rr] H Q E:=by
 have o:∀ {row a},(∀ z∈row,z∈S)->Oc S n r row a->a="many":=λ{row a} hr h=>h.elim (λh=>h.2.elim (λz=>xAu hg z) λz=>xAu hr z) λh=>h.elim (·.1) λ⟨_,_,_,m,ev⟩=>xAu ev (hn m);exact⟨n,A.le,x,dd,rr,r,S,row,rfl,A.R,A.wf,A.le,A.sh,A.W,A.SO,A.T,λ_=>hF,A.rw,A.rs,λf a b H' oa ob s hf T e=>q f H' s hf T (by rw[e,o (row:=[]) (λ_ hz=>nomatch hz) oa,o hr ob]; rfl)⟩
theorem Ask.good (A:Ask C Pr Cs n x dd rr r S row H)(hg:∀ z∈cG n r,z∈S)(hF:wU S n r)(hn:¬ Ev S n r none)(q:∀ (f:Addr) (b:Str) H',((∀ z∈row,z∈S)->b="")->((¬ ∀ z∈row,z∈S)->b="deed")->aM (off H Pr) H'->H f=none->Tab dI dH Pr H'->H' f=some (.lst ((["",b]:List Str).map V.str))->Q (.ref f) H'):aOf C Pr Cs [.ref x,.ref dd,.ref rr] H Q E:=by
 have o:∀ {row a},(∀ z∈row,z∈S)->Oc S n r row a->a="":=λ{row a} hr h=>h.elim (λh=>h.2.elim (λz=>xAu hg z) λz=>xAu hr z) λh=>h.elim (λh=>xAu h.2.2 hn) (·.1);exact⟨n,A.le,x,dd,rr,r,S,row,rfl,A.R,A.wf,A.le,A.sh,A.W,A.SO,A.T,λ_=>hF,A.rw,A.rs,λf a b H' oa ob s hf T e=>q f b H' (λhr=>o hr ob) (λhr=>ob.elim (·.1) λh=>h.elim (λh=>xAu h.2.2 hn) λh=>xAu h.2.2.1 hr) s hf T (by rw[e,o (row:=[]) (λ_ hz=>nomatch hz) oa]; rfl)⟩
end
end K34
namespace K34
open PySem L2 Ky PySem.W
seal L2.PE L2.PS L2.PSs L2.PA L2.PT L2.PW L2.PG L2.PI L2.PTs L2.PO L2.OpR L2.IxR L2.CallR L2.MtM L2.MtR
unseal L2.MtM L2.MtR
theorem nodeed:aU "nodeed" = true/\("nodeed" : Str)∉jA/\("nodeed" : Str).length<=1000:=by decide +kernel
theorem kO {ss:List Str}(h:∀ z∈ss,aU z=true):dR ss:=λz hz=>xAs (oE (h z hz)) (by decide)
section
variable {K:xAb}
theorem oF {C X dX a:Addr}{cl:Why->Addr}{y:V}{ss fs:List Str}{H:Hp}{Q:VK}{E:XK}(hX:H X=none)(hdX:H dX=none)(ha:H a=some (.lst (ss.map V.str)))(hy:(y=.non/\fs=[])\/∃ b,y=.ref b/\H b=some (.lst (fs.map V.str)))(h12:ss.length<=12)(hn:∀ z∈ss,aU z=true)(hd:ss.Nodup)(hf:∀ z∈fs,z∈ss)(fl:fs.length<=1000)
  (q:∀ S H',aM H H'->SOk S->(∀ z,z∈S↔z∈ss)->WAt C H' X (wts S 1 [])->Q .non H'):zQ K C cl [.ref X,.ref a,y] (upd (upd H dX (.own X)) X (.ins C dX [])) Q E:=by
 have k1:aM H (upd (upd H dX (.own X)) X (.ins C dX [])):=λb o e=>by rw[aH (aI e hX),aH (aI e hdX)]; exact e
 refine⟨X,a,y,dX,ss,fs,rfl,aD,SqL.of (k1 _ _ ha),hy.imp id λ⟨b,e,h⟩=>⟨b,e,SqL.of (k1 _ _ h)⟩,kO hn,λz hz=>kO hn z (hf z hz),fl,λH3 sb=>?_⟩;rw[aLb h12 hn hd hf];intro dw df o S e1 e2 e3 pm so;refine q S H3 (λb u e=>sb b u (aI e hX) (k1 b u e)) ⟨by rw[pm.length_eq]; exact h12,so,pm.nodup_iff.mpr hd,λz=>?_⟩ (λz=>pm.mem_iff) ⟨dX,_,dw,o,e1,aWh _ _,by rfl,e2⟩;rw[cZ,rC,show (dE ([]:List (Key×V)) (Sum.inr z)).isSome=false from rfl,xHz,xBh,xEw]
 exact⟨λh=>h.2,λh=>⟨hn z (pm.mem_iff.mp h),h⟩⟩
end
theorem hV {H H1 H2:Hp}{P:Addr}(s:aM (off H P) H1)(t:aM (off H1 P) H2):aM (off H P) H2:=λb o e=>t b o (gS (cS e).1 (s b o e))
structure Sit (C Pr:Addr)(Cs:Nat->Addr)(x y dd:Addr)(k k':RK)(S:List Str)(H:Hp):Prop where
 rx:eK Cs H x k
 ry:eK Cs H y k'
 W:WAt C H dd (wts S 1 [])
 T:Tab dI dH Pr H
structure Sta (k k':RK)(S:List Str):Prop where
 SO:SOk S
 wf:k.Wf
 ab:∀ z∈k.about,z∈S
 od:Odd k k'
 no:("nodeed" : Str)∉S
 nm:∀ z∈S,aU z=true
theorem Sta.sh {k k':RK}{S:List Str}(A:Sta k k' S):dR k.about:=λz hz=>kO A.nm z (A.ab z hz)
theorem Sta.sh' {k k':RK}{S:List Str}(A:Sta k k' S):dR k'.about:=λz hz=>(A.od.sub z hz).elim (λe=>e▸nodeed.2.2) λh=>A.sh z h
theorem Sta.bad {k k':RK}{S:List Str}(A:Sta k k' S):¬ ∀ z∈k'.about,z∈S:=λh=>A.no (h _ A.od.nd)
section
variable {C Pr:Addr}{Cs:Nat->Addr}{x y dd:Addr}{k k':RK}{S:List Str}{H H':Hp}
theorem Sit.off (Z:Sit C Pr Cs x y dd k k' S H)(s:aM (K34.off H Pr) H')(T:Tab dI dH Pr H'):Sit C Pr Cs x y dd k k' S H':=by
 have nt:=eU Z.T.tb s;have st:∀ b o,H b=some o->Rq o->H' b=some o:=λb o e q=>nt b o e (by cases o <;> first | trivial | exact q)
 exact⟨Z.rx.st st,Z.ry.st st,ntW nt Z.W,T⟩
theorem Sit.same (Z:Sit C Pr Cs x y dd k k' S H)(s:aM H H'):Sit C Pr Cs x y dd k k' S H':=Z.off (jV s) (Z.T.same s)
theorem aLi (k:RK):∃ z,z∈k.about:=by
 cases k <;> exact⟨_,.head _⟩
end
theorem aKp {ss ts:List Str}{p q:Prop}(h:ss=ts)(x:q):if (if (true:Bool)=true then !decide (ss=ts) else decide (ss=ts))=true then p else q:=by rw[xAz rfl,h,xAm rfl]; exact x
inductive aSd (C Pr:Addr)(Cs:Nat->Addr)(vs:List V)(H:Hp)(Q:VK)(E:XK):Prop
 | mk (x y t dd:Addr)(k k':RK)(S:List Str)(h0_:vs=[.ref x,.ref y,.ref t,.ref dd])(h1_:Sit C Pr Cs x y dd k k' S H)(h2_:Sta k k' S)(h3_:H t=some (.tup (rV k).wl))(h4_:∀ H',aM (off H Pr) H'->Tab dI dH Pr H'->Q (.bl true) H')
section
variable {P:Program}{w:World}{K:xAb}{mg:xSO}{base:Heap}{Cs:Nat->Addr}{C Pr:Addr}{cl:Why->Addr}
structure DeC (P:Program)(w:World)(K:xAb)(mg:xSO)(base:Heap)(C f:Addr)(cl:Why->Addr)(fd:FuncData):Prop where
 G:aP P w K mg base (CXE P w) 4 f fd ["self","names","free"] (zQ K C cl)
 k:Mk K C f
 m:mg "Deeds"=some (.ref C)
 b:aS K fd ["self","names","free"] []
 b1:aS K fd ["self","names","free"] [.none]
abbrev NAq:List Str:=["_law_rule","_law_deeds","_law_row"]
structure AsC (P:Program)(w:World)(K:xAb)(mg:xSO)(base:Heap)(C Pr:Addr)(Cs:Nat->Addr)(f:Addr)(fd:FuncData):Prop where
 G:aP P w K mg base CX0 17 f fd NAq (aOf C Pr Cs)
 k:keepIn K (.ref f)=true
 m:mg "_law_asked"=some (.ref f)
 b:aS K fd NAq []
abbrev NBy:List Str:=["_law_rule","_law_strange_here","_law_words","_law_deeds"]
theorem aVv:aO NBy NBy (aA sBy):=xfs
theorem aSv {f fA fD:Addr}{fd fdA fdD:FuncData}(F:Fun K "_law_by_deeds" "_law_by_deeds" sBy f fd)(T:Txt K mg)(AS:AsC P w K mg base C Pr Cs fA fdA)(DE:DeC P w K mg base C fD cl fdD):aP P w K mg base CX0 18 f fd NBy (aSd C Pr Cs):=by
 refine F.ok aVv (λvs H Q E h=>?_) (λcdv A outer s H vs Q E hr h=>?_)
 ·obtain⟨x,y,t,dd,k,k',S,rfl,_⟩:=h;rfl
 ·obtain⟨x,y,t,dd,k,k',S,rfl,Z,A,ht,q⟩:=h;have hr5:bY (4+1) _:=hr.mono (by decide);have hu0:=xGu (jG hr)
  refine⟨_,aJ (cM (iV (aX (nX hu0) (aR AS.G hr (by rfl) AS.m AS.k AS.b .nil aY (pac (pv 1) (pac (pv 3) (pac (aV aE) aE)))) (aV (pac aL (pac aL aE))) (bJ _))
    (hU (aX (nX hu0) (aR AS.G hr (by rfl) AS.m AS.k AS.b .nil aY (pac (pv 0) (pac (pv 3) (pac (aV (pac aL aE)) aE)))) (aV (pac aL (pac aL aE))) (bJ _)))).pt (aK (aQ gN)) aZ)
   (aJ (cM (iV (aX (nX hu0) (aR AS.G hr (by rfl) AS.m AS.k AS.b .nil aY (pac (pv 0) (pac (cL (dvs:=[.non]) DE.k DE.G hr5 (by rfl) DE.m DE.b1 (.cons rfl .nil) gJ (pac (aV (pac aL aE)) aE)) (pac (aV aE) aE)))) (aV (pac aL (pac aL aE))) (bJ _))
    (hU (aX kE (cQ dD (aR AS.G hr (by rfl) AS.m AS.k AS.b .nil aY (pac (pv 0) (pac (pv 3) (pac (aV aE) aE)))) aN (λ_ _=>rfl)) aL (bJ _)))).pt (aK (aQ gN)) aZ)
   (aJ (cM (aQm (aX iX (bV cE (by rfl) T.len Bo.len (pac (pv 2) aE)) aN (bJ _)) (aMn (aX kE (cQ dW (pv 2) aN (λ_ _=>rfl)) aL (bJ _)))).pt
    (aK (aQ (iA (wB hu0) (aR AS.G hr (by rfl) AS.m AS.k AS.b .nil aY (pac (pv 0) (pac (cL (dvs:=[.non]) DE.k DE.G hr5 (by rfl) DE.m DE.b1 (.cons rfl .nil) gJ (pac (aV (pac (cQ dW (pv 2) aN (λ_ _=>rfl)) aE)) aE)) (pac (aV aE) aE)))) (aV (pac aL (pac aL aE))) (bJ _)))) aZ)
   (aK (aQ gN)))),?_⟩
  have kno:("nodeed" : Str)∉k.about:=λh=>A.no (A.ab _ h);have ev0:∀ S:List Str,¬ Ev S 0 k none:=λ_ h=>nomatch h;have ask:∀ {H1:Hp}{rr:Addr}{row:List Str},Sit C Pr Cs x y dd k k' S H1->H1 rr=some (.lst (row.map V.str))->dR row->Ask C Pr Cs 0 x dd rr k S row H1:=λZ1 h hs=>⟨Z1.rx,A.wf,by decide,A.sh,Z1.W,A.SO,Z1.T,h,hs⟩;have nil:dR []:=λ_ hz=>nomatch hz;refine⟨_,rfl,_,rfl,by show 0<=sizeLine; decide,λp1 hp1=>?_⟩;have Z1:=Z.same (smu (o:=.lst []) hp1);refine Ask.bad (n:=0) (r:=k') (row:=[]) ⟨Z1.ry,A.od.wf,by decide,A.sh',Z1.W,A.SO,Z1.T,aD,nil⟩ A.bad λf2 H2 s2 _ T2 e2=>⟨by show 2<=sizeLine; decide,λl2 hl2=>⟨f2,l2,_,["deed","deed"],rfl,rfl,SqL.of (smu hl2 _ _ e2),SqL.of aD,_,rfl,aKp rfl ?_⟩⟩;have o3:aM (off H Pr) (upd H2 l2 (.lst [.str "deed",.str "deed"])):=(hV (jV (smu hp1)) s2).trans (smu hl2);have Z3:Sit C Pr Cs x y dd k k' S (upd H2 l2 (.lst [.str "deed",.str "deed"])):=(Z1.off s2 T2).same (smu hl2);generalize upd H2 l2 (.lst [.str "deed",.str "deed"])=H3 at o3 Z3 ⊢;clear Z1 s2 T2 e2 hp1 hl2;refine⟨_,rfl,_,rfl,by show 1<=sizeLine; decide,λp4 hp4=>?_⟩;have Z4:=Z3.same (smu (o:=.lst [.str "nodeed"]) hp4);refine (ask (row:=["nodeed"]) Z4 aD (λz hz=>xAg.mp hz▸nodeed.2.2)).good A.ab trivial (ev0 S) λf5 b5 H5 _ hb s5 _ T5 e5=>⟨by show 2<=sizeLine; decide,λl5 hl5=>⟨f5,l5,_,["","deed"],rfl,rfl,SqL.of (smu hl5 _ _ e5),SqL.of aD,_,rfl,aKp (by rw[hb λh=>A.no (h _ (.head _))]) ?_⟩⟩;have o6:aM (off H Pr) (upd H5 l5 (.lst [.str "",.str "deed"])):=(hV (o3.trans (smu hp4)) s5).trans (smu hl5);have Z6:Sit C Pr Cs x y dd k k' S (upd H5 l5 (.lst [.str "",.str "deed"])):=(Z4.off s5 T5).same (smu hl5);generalize upd H5 l5 (.lst [.str "",.str "deed"])=H6 at o6 Z6 ⊢;clear Z4 s5 T5 e5 hp4 hl5 o3 Z3;refine⟨_,rfl,by show 1<=sizeLine; decide,λp7 hp7 X7 d7 hX7 hd7 _=>oF (ss:=["nodeed"]) (fs:=[]) hX7 hd7 aD (.inl ⟨rfl,rfl⟩) (by decide) (λz hz=>xAg.mp hz▸nodeed.1) (by decide +kernel) (λ_ hz=>nomatch hz) (by decide) λS7 H7 s7 SO7 m7 W7=>⟨rfl,by show 0<=sizeLine; decide,λp8 hp8=>?_⟩⟩;have Z8:=(Z6.same (smu hp7)).same (s7.trans (smu (o:=.lst []) hp8));refine Ask.bad (n:=0) (r:=k) (S:=S7) (row:=[]) ⟨Z8.rx,A.wf,by decide,A.sh,dS W7 (smu hp8),SO7,Z8.T,aD,nil⟩ (λh=>?_) λf9 H9 s9 _ T9 e9=>⟨by show 2<=sizeLine; decide,λl9 hl9=>⟨f9,l9,_,["deed","deed"],rfl,rfl,SqL.of (smu hl9 _ _ e9),SqL.of aD,_,rfl,aKp rfl ?_⟩⟩
  ·obtain⟨z,hz⟩:=aLi k;exact kno (xAg.mp ((m7 z).mp (h z hz))▸hz)
  have oA:aM (off H Pr) (upd H9 l9 (.lst [.str "deed",.str "deed"])):=(hV (o6.trans ((smu hp7).trans (s7.trans (smu hp8)))) s9).trans (smu hl9);have ZA:Sit C Pr Cs x y dd k k' S (upd H9 l9 (.lst [.str "deed",.str "deed"])):=(Z8.off s9 T9).same (smu hl9);generalize upd H9 l9 (.lst [.str "deed",.str "deed"])=HA at oA ZA ⊢;clear Z8 s9 T9 e9 hp7 hp8 hl9 o6 Z6 s7 W7;refine⟨_,rfl,_,rfl,by show 0<=sizeLine; decide,λpB hpB=>?_⟩;have ZB:=ZA.same (smu (o:=.lst []) hpB);refine (ask (row:=[]) ZB aD nil).good A.ab trivial (ev0 S) λfC bC HC _ _ sC _ TC eC=>⟨fC,_,_,.str "",rfl,rfl,SqL.of eC,rfl,rfl,_,rfl,sP rfl ?_⟩;have oC:aM (off H Pr) HC:=hV (oA.trans (smu hpB)) sC;have ZC:=ZB.off sC TC;have htC:=eU Z.T.tb oC _ _ ht trivial;clear ZB sC eC hpB oA ZA;cases k with
  | never a=>exact⟨_,rfl,t,_,rfl,.inr (SqT.of htC),rfl,_,rfl,gK (λz=>xAu z (by show ¬ decide (V.int 2=V.int 3)=true; decide)) λ_=>q HC oC TC⟩
  | most a n=>exact⟨_,rfl,t,_,rfl,.inr (SqT.of htC),rfl,_,rfl,gK (λ_=>⟨_,rfl,t,_,_,.str "most",rfl,rfl,SqT.of htC,rfl,rfl,_,rfl,sP rfl (q HC oC TC)⟩) λz=>xAu rfl z⟩
  | two v a b=>
   refine⟨_,rfl,t,_,rfl,.inr (SqT.of htC),rfl,_,rfl,gK (λ_=>⟨_,rfl,t,_,_,.str (wn v),rfl,rfl,SqT.of htC,rfl,rfl,_,rfl,gK (λ_=>?_) λz=>xAu ?_ z⟩) λz=>xAu rfl z⟩
   ·refine⟨_,rfl,_,rfl,t,_,_,.str a,rfl,rfl,SqT.of htC,rfl,by show 1<=sizeLine; decide,λp7 hp7 X7 d7 hX7 hd7 _=>oF (ss:=[a]) (fs:=[]) hX7 hd7 aD (.inl ⟨rfl,rfl⟩) (by show 1<=12; decide) (λz hz=>xAg.mp hz▸A.nm _ (A.ab _ (.head _))) (aNb a) (λ_ hz=>nomatch hz) (by show 0<=1000; decide) λS7 H7 s7 SO7 m7 W7=>⟨rfl,by show 0<=sizeLine; decide,λp8 hp8=>?_⟩⟩;have Z8:=(ZC.same (smu hp7)).same (s7.trans (smu (o:=.lst []) hp8));refine Ask.bad (n:=0) (r:=RK.two v a b) (S:=S7) (row:=[]) ⟨Z8.rx,A.wf,by decide,A.sh,dS W7 (smu hp8),SO7,Z8.T,aD,nil⟩ (λh=>?_) λf9 H9 s9 _ T9 e9=>⟨by show 2<=sizeLine; decide,λl9 hl9=>⟨f9,l9,_,["deed","deed"],rfl,rfl,SqL.of (smu hl9 _ _ e9),SqL.of aD,?_⟩⟩
    ·exact A.wf (xAg.mp ((m7 b).mp (h b (.tail _ (.head _))))).symm
    ·exact q _ ((hV (oC.trans ((smu hp7).trans (s7.trans (smu hp8)))) s9).trans (smu hl9)) (T9.same (smu hl9))
   ·exact (show ∀ v:_root_.Fin 4,(!decide (V.str (wn v)=V.str "most"))=true by decide +kernel) v
theorem aTo (xs:List V){n:Nat}(h:n<=xs.length):jZ xs (some (n:Int)) none=xs.drop n:=by
 unfold jZ;rw[HT.sIx_none,HT.sIx_nat,xFt h,xCy (by rw[xEk]; exact xAh _)]
theorem pU {α β:Type}{F:α->β->Prop}:∀ {l:List α}{m:List β}(n:Nat),Paired F l m->Paired F (l.drop n) (m.drop n)
 | _,_,0,h=>h
 | _,_,_+1,.nil=>.nil
 | _,_,n+1,.cons _ t=>pU n t
theorem lU (l:List (Rl 0)):fJ 1 (.inr l)=1:=by
 have:∀ l:List (Rl 0),(l.map (fJ 0)).foldl max 0=0:=λl=>by
  induction l with
  | nil=>rfl
  | cons a l ih=>exact ih
 show 1+(l.map (fJ 0)).foldl max 0=1;rw[this]
theorem zB {l:List (Rl 0)}{z:Str}:z∈cG 1 (.inr l)↔∃ k∈l,z∈RK.about k:=xBl
inductive aHd (C Pr:Addr)(Cs:Nat->Addr)(vs:List V)(H:Hp)(Q:VK)(E:XK):Prop
 | mk (x y dd n:Addr)(c:Int)(k k':RK)(S ss:List Str)(h0_:vs=[.ref x,.ref y,.ref dd,.ref n,.int c])(h1_:Sit C Pr Cs x y dd k k' S H)(h2_:Sta k k' S)(h3_:H n=some (.lst (ss.map V.str)))(h5_:∀ z∈ss,z∈S)(h6_:ss.Nodup)(h4_:∀ H',aM (off H Pr) H'->Tab dI dH Pr H'->Q (.bl true) H')
abbrev aPl (Cs:Nat->Addr):Sp:=λvs H Q E=>∃ n,n<=4/\aHe Cs n vs H Q E
section
variable {P:Program}{w:World}{K:xAb}{mg:xSO}{base:Heap}{Cs:Nat->Addr}{C Pr cT:Addr}
structure CaC (P:Program)(w:World)(K:xAb)(mg:xSO)(base:Heap)(n:Nat)(x:Str)(f:Addr)(fd:FuncData)(ps:List Str)(sp:Sp):Prop where
 G:aP P w K mg base CX0 n f fd ps sp
 k:keepIn K (.ref f)=true
 b:aS K fd ps []
 m:mg x=some (.ref f)
abbrev aWz:List Str:=["_law_rule","_law_strange_here","_law_deeds","_law_names","_law_cell","_law_great_here"]
theorem aHk:aO aWz ["_law_rule","_law_strange_here","_law_deeds","_law_names","_law_cell"] (aA aHt):=xfs
theorem aMx {f fA fI fL fD fG:Addr}{fd fdA fdI fdL fdD fdG:FuncData}(F:Fun K "_law_alls" "_law_alls" aHt f fd)(T:Txt K mg)(AS:AsC P w K mg base C Pr Cs fA fdA)(A1:CkC P w K mg base (CXE P w) 7 "All" (Cs 6) fI fdI ["self","rules"] (zR Cs cT))
  (AL:CaC P w K mg base 9 "_law_all" fL fdL ["_law_rules"] (aPl Cs))(DL:CaC P w K mg base 9 "_law_deep" fD fdD ["_law_rule","_law_many"] (aCr Cs))(GR:CaC P w K mg base 4 "_law_great" fG fdG ["_law_names"] (aCo Cs)) :
  aP P w K mg base CX0 18 f fd ["_law_rule","_law_strange_here","_law_deeds","_law_names","_law_cell"] (aHd C Pr Cs):=by
 refine F.ok aHk (λvs H Q E h=>?_) (λcdv A outer s H vs Q E hr h=>?_)
 ·obtain⟨x,y,dd,n,c,k,k',S,ss,rfl,_⟩:=h;rfl
 ·obtain⟨x,y,dd,n,c,k,k',S,ss,rfl,Z,A,hn,hss,hnd,q⟩:=h;have hr8:bY (7+1) _:=hr.mono (by decide);have hr9:bY 9 _:=hr.mono (by decide);have hr4:bY 4 _:=hr.mono (by decide);have hu0:=xGu (jG hr)
  refine⟨_,aJ (cM (aX (nX hu0) (aR AS.G hr (by rfl) AS.m AS.k AS.b .nil aY (pac (cL A1.k A1.G hr8 (by rfl) A1.m A1.b .nil gJ (pac (iL nK (aV (pac (pv 0) (pac (pv 1) (pac (pv 0) aE)))) (jT (bX dU (pv 4) aN)) jU) aE)) (pac (pv 2) (pac (aV aE) aE)))) (aV (pac aL (pac aL aE))) (bJ _)) (aK (aQ gN)) aZ)
   (aJ (cM (iV (aX kE (aR AL.G hr9 (by rfl) AL.m AL.k AL.b .nil aY (pac (bX aIm (aV (pac (pv 0) aE)) aN) aE)) aL (bJ _)) (iV (aX kE (aR AL.G hr9 (by rfl) AL.m AL.k AL.b .nil aY (pac (bX aIm (aV (pac (pv 0) aE)) aN) aE)) aL (bJ _))
     (hU (aX kE (aR AL.G hr9 (by rfl) AL.m AL.k AL.b .nil aY (pac (aV (pac (aR DL.G hr9 (by rfl) DL.m DL.k DL.b .nil aY (pac (pv 0) (pac aN aE))) aE)) aE)) aL (bJ _))))).pt (aK (aQ gN)) aZ)
   (aJ (cM (iV (aX kE (aR AL.G hr9 (by rfl) AL.m AL.k AL.b .nil aY (pac (aV (pac (pv 0) (pac (aR DL.G hr9 (by rfl) DL.m DL.k DL.b .nil aY (pac (pv 1) (pac aN aE))) aE))) aE)) aL (bJ _))
     (hU (aX kE (cQ dD (aR AS.G hr (by rfl) AS.m AS.k AS.b .nil aY (pac (aR DL.G hr9 (by rfl) DL.m DL.k DL.b .nil aY (pac (pv 0) (pac aN aE))) (pac (pv 2) (pac (pv 3) aE)))) aN (λ_ _=>rfl)) aL (bJ _)))).pt (aK (aQ gN)) aZ)
   (aJ (cM (aX aDd (bV cE (by rfl) T.len Bo.len (pac (pv 3) aE)) aN (bJ _)) (aK (aQ (iA (wB hu0) (aR AS.G hr (by rfl) AS.m AS.k AS.b .nil aY (pac (cL A1.k A1.G hr8 (by rfl) A1.m A1.b .nil gJ (pac (aV aE) aE)) (pac (pv 2) (pac (pv 3) aE)))) (aV (pac aL (pac aL aE))) (bJ _)))) aZ)
   (aJ (bO (i:=5) aHk.nd rfl (xBg rfl) (aR GR.G hr4 (by rfl) GR.m GR.k GR.b .nil aY (pac (pv 3) aE)))
   (aJ (cM (iV (aX (nX hu0) (aR AS.G hr (by rfl) AS.m AS.k AS.b .nil aY (pac (cL A1.k A1.G hr8 (by rfl) A1.m A1.b .nil gJ (pac (pv 5) aE)) (pac (pv 2) (pac (aV aE) aE)))) (aV (pac aL (pac aL aE))) (bJ _))
     (hU (aX kE (cQ dD (aR AS.G hr (by rfl) AS.m AS.k AS.b .nil aY (pac (cL A1.k A1.G hr8 (by rfl) A1.m A1.b .nil gJ (pac (iL nK (pv 5) jU (jT aN)) aE)) (pac (pv 2) (pac (aV aE) aE)))) aN (λ_ _=>rfl)) aL (bJ _)))).pt (aK (aQ gN)) aZ)
   (aK (aQ (iA (wB hu0) (aR AS.G hr (by rfl) AS.m AS.k AS.b .nil aY (pac (cL A1.k A1.G hr8 (by rfl) A1.m A1.b .nil gJ (pac (aV (pac (cL A1.k A1.G hr8 (by rfl) A1.m A1.b .nil gJ (pac (pv 5) aE)) (pac (pv 1) (pac (pv 0) aE)))) aE)) (pac (pv 2) (pac (aV aE) aE)))) (aV (pac aL (pac aL aE))) (bJ _))))))))),?_⟩
  have nil:dR []:=λ_ hz=>nomatch hz
  have wf2:∀ r∈([k,k',k]:List (Rl 0)),WfR 0 r:=λr hr=>by
   rcases xAk.mp hr with rfl | hr
   ·exact A.wf
   ·rcases xAk.mp hr with rfl | hr
    ·exact A.od.wf
    ·exact xAg.mp hr▸A.wf
  obtain⟨j,ej,hj⟩:∃ j:Nat,c%2=j/\j<2:=⟨(c%2).toNat,by omega,by omega⟩;refine⟨_,rfl,_,rfl,_,rfl,by show 3<=sizeLine; decide,λp1 hp1=>⟨_,rfl,_,_,rfl,rfl,(by show (0:Int)<2; decide),_,rfl,p1,_,rfl,SqL.of aD,λp2 hp2 X2 d2 hX2 hd2 _=>⟨0,by decide,?_⟩⟩⟩;rw[ej,aTo _ (by show j<=3; omega)] at hX2 hd2 ⊢;have Za:=(Z.same (smu hp1)).same (smu (o:=.lst ([V.ref x,V.ref y,V.ref x].drop j)) hp2);have oa:aM (off H Pr) (upd (upd H p1 (.lst [.ref x,.ref y,.ref x])) p2 (.lst ([V.ref x,V.ref y,V.ref x].drop j))):=jV ((smu hp1).trans (smu hp2));have ea:(upd (upd H p1 (.lst [.ref x,.ref y,.ref x])) p2 (.lst ([V.ref x,V.ref y,V.ref x].drop j))) p2=some (.lst (([x,y,x].drop j).map V.ref)):=by rw[aD,List.map_drop]; rfl
  generalize upd (upd H p1 (.lst [.ref x,.ref y,.ref x])) p2 (.lst ([V.ref x,V.ref y,V.ref x].drop j))=Ha at Za oa ea hX2 hd2 ⊢
  have inl:k'∈([k,k',k]:List (Rl 0)).drop j:=by
   match j,hj with
   | 0,_=>exact .tail _ (.head _)
   | 1,_=>exact .head _
  refine mU (as:=[x,y,x].drop j) (l:=([k,k',k]:List (Rl 0)).drop j) hX2 hd2 ea (pU j (.cons Za.rx (.cons Za.ry (.cons Za.rx .nil)))) (λr hr=>wf2 r (xGc hr)) (by rw[xEk]; show 3-j<=4; omega) (by rw[lU]; decide) λH3 s3 R3=>⟨rfl,_,rfl,by show 0<=sizeLine; decide,λp4 hp4=>?_⟩;have Z4:=Za.same (s3.trans (smu (o:=.lst []) hp4))
  have sh2:dR (cG 1 (.inr (([k,k',k]:List (Rl 0)).drop j))):=λz hz=>by
   obtain⟨r,hr,hq⟩:=zB.mp hz;rcases xAk.mp (xGc hr) with rfl | hr
   ·exact A.sh z hq
   ·rcases xAk.mp hr with rfl | hr
    ·exact A.sh' z hq
    ·rw[xAg.mp hr] at hq; exact A.sh z hq
  refine Ask.bad (n:=1) (row:=[]) ⟨R3.same (smu hp4),⟨by rw[xEk]; show 3-j<=4; omega,λr hr=>wf2 r (xGc hr)⟩,by decide,sh2,Z4.W,A.SO,Z4.T,aD,nil⟩ (λh=>A.bad λz hz=>h z (zB.mpr ⟨k',inl,hz⟩)) λf5 H5 s5 _ T5 e5=>⟨by show 2<=sizeLine; decide,λl5 hl5=>⟨f5,l5,_,["deed","deed"],rfl,rfl,SqL.of (smu hl5 _ _ e5),SqL.of aD,_,rfl,aKp rfl ?_⟩⟩;have o6:aM (off H Pr) (upd H5 l5 (.lst [.str "deed",.str "deed"])):=(hV (oa.trans (s3.trans (smu hp4))) s5).trans (smu hl5);have Z6:Sit C Pr Cs x y dd k k' S (upd H5 l5 (.lst [.str "deed",.str "deed"])):=(Z4.off s5 T5).same (smu hl5);generalize upd H5 l5 (.lst [.str "deed",.str "deed"])=H6 at o6 Z6 ⊢;clear Za oa ea inl sh2 Z4 s5 T5 e5 R3 s3 wf2 ej hj;have wf1:∀ (m:Nat),∀ r∈(List.replicate m k:List (Rl 0)),WfR 0 r:=λm r hr=>(List.eq_of_mem_replicate hr)▸A.wf;refine⟨_,rfl,by show 1<=sizeLine; decide,λp7 hp7=>⟨p7,5,_,rfl,rfl,aD,by decide,by decide,by show 1*5<=sizeLine; decide,λp8 hp8=>⟨0,by decide,p8,[x,x,x,x,x],(List.replicate 5 k:List (Rl 0)),rfl,aD,?_,wf1 5,λH9 s9=>⟨rfl,_,rfl,sP (xAw λh=>xAu h.1 (by show ¬ 5<=4; decide)) ?_⟩⟩⟩⟩
  ·have R:=((Z6.same (smu (o:=.lst [.ref x]) hp7)).same (smu (o:=.lst [.ref x,.ref x,.ref x,.ref x,.ref x]) hp8)).rx;exact .cons R (.cons R (.cons R (.cons R (.cons R .nil))))
  have o9:=o6.trans ((smu (o:=.lst [.ref x]) hp7).trans ((smu (o:=.lst [.ref x,.ref x,.ref x,.ref x,.ref x]) hp8).trans s9));have Z9:=Z6.same ((smu (o:=.lst [.ref x]) hp7).trans ((smu (o:=.lst [.ref x,.ref x,.ref x,.ref x,.ref x]) hp8).trans s9));clear o6 Z6 s9 hp7 hp8;refine⟨_,rfl,by show 1<=sizeLine; decide,λp7 hp7=>⟨p7,4,_,rfl,rfl,aD,by decide,by decide,by show 1*4<=sizeLine; decide,λp8 hp8=>⟨0,by decide,p8,[x,x,x,x],(List.replicate 4 k:List (Rl 0)),rfl,aD,?_,wf1 4,λHb sb=>⟨rfl,_,rfl,sP (xAz ⟨by show 4<=4; decide,by rw[lU]; decide⟩) ?_⟩⟩⟩⟩
  ·have R:=((Z9.same (smu (o:=.lst [.ref x]) hp7)).same (smu (o:=.lst [.ref x,.ref x,.ref x,.ref x]) hp8)).rx;exact .cons R (.cons R (.cons R (.cons R .nil)))
  have ob:=o9.trans ((smu (o:=.lst [.ref x]) hp7).trans ((smu (o:=.lst [.ref x,.ref x,.ref x,.ref x]) hp8).trans sb));have Zb:=Z9.same ((smu (o:=.lst [.ref x]) hp7).trans ((smu (o:=.lst [.ref x,.ref x,.ref x,.ref x]) hp8).trans sb));clear o9 Z9 sb hp7 hp8;refine⟨_,rfl,x,3,k,rfl,by decide,Zb.rx,A.wf,λyc Hc sc Rc=>⟨by show 1<=sizeLine; decide,λp7 hp7=>⟨3,by decide,p7,[yc],[gO 3 k],rfl,aD,.cons (Rc.same (smu hp7)) .nil,λr hr=>xAg.mp hr▸jK 3 A.wf,λHd sd=>⟨rfl,_,rfl,sP (xAw λh=>xAu h.2 (by rw[show fJ (3+1) (.inr [gO 3 k])=4 from kC 4 k]; decide)) ?_⟩⟩⟩⟩
  have od:=ob.trans (sc.trans ((smu hp7).trans sd));have Zd:=Zb.same (sc.trans ((smu hp7).trans sd));clear ob Zb sc sd hp7 Rc
  have hdp:fJ (2+1) (.inr [.inl k,gO 2 k'])<=3:=by
   show 1+max (max 0 0) (fJ 2 (gO 2 k'))<=3;rw[kC]
   decide
  refine⟨_,rfl,_,rfl,y,2,k',rfl,by decide,Zd.ry,A.od.wf,λyc Hc sc Rc=>⟨by show 2<=sizeLine; decide,λp7 hp7=>⟨2,by decide,p7,[x,yc],[.inl k,gO 2 k'],rfl,aD,.cons (Zd.same (sc.trans (smu hp7))).rx (.cons (Rc.same (smu hp7)) .nil),λr hr=>?_,λHe se=>⟨rfl,_,rfl,sP (xAz ⟨by show 2<=4; decide,hdp⟩) ?_⟩⟩⟩⟩
  ·rcases xAk.mp hr with rfl | hr
   ·exact A.wf
   ·exact xAg.mp hr▸jK 2 A.od.wf
  have oe:=od.trans (sc.trans ((smu hp7).trans se));have Ze:=Zd.same (sc.trans ((smu hp7).trans se));clear od Zd sc se hp7 Rc;have ev3:=yR A.wf A.ab 3;have snn:dR ss:=λz hz=>kO A.nm z (hss z hz);refine⟨_,rfl,x,3,k,rfl,by decide,Ze.rx,A.wf,λyc Hc sc Rc=>⟨_,rfl,_,rfl,?_⟩⟩;have oc:=oe.trans sc;have Zc:=Ze.same sc;refine Ask.good (n:=3) (r:=gO 3 k) (row:=ss) ⟨Rc,jK 3 A.wf,by decide,by rw[iZ]; exact A.sh,Zc.W,A.SO,Zc.T,eU Z.T.tb oc _ _ hn trivial,snn⟩ (by rw[iZ]; exact A.ab) ev3.1 ev3.2 λff bf Hf _ _ sf _ Tf ef=>⟨ff,_,_,.str "",rfl,rfl,SqL.of ef,rfl,rfl,_,rfl,sP rfl ?_⟩;have of':=hV oc sf;have Zf:=Zc.off sf Tf;have hnf:=eU Z.T.tb of' _ _ hn trivial;clear oe Ze sc Rc oc Zc sf Tf ef ev3;refine⟨_,rfl,n,_,rfl,.inl (SqL.of hnf),_,_,rfl,rfl,_,rfl,gK (λ_=>?_) λh3=>?_⟩
  ·refine⟨by show 0<=sizeLine; decide,λp7 hp7 X2 d2 hX2 hd2 _=>⟨0,by decide,mU (as:=[]) (l:=[]) hX2 hd2 aD .nil (λ_ hr=>nomatch hr) (by show 0<=4; decide) (by show 1<=3; decide) λHg sg Rg=>⟨rfl,_,rfl,_,rfl,?_⟩⟩⟩;have og:=of'.trans ((smu hp7).trans sg);have Zg:=Zf.same ((smu hp7).trans sg);refine Ask.good (n:=1) (r:=.inr []) (row:=ss) ⟨Rg,⟨by show 0<=4; decide,λ_ hr=>nomatch hr⟩,by decide,nil,Zg.W,A.SO,Zg.T,eU Z.T.tb og _ _ hn trivial,snn⟩ (λ_ hz=>nomatch hz) (λ_ hr=>nomatch hr) ?_ λfh bh Hh hb _ sh _ Th eh=>⟨by show 2<=sizeLine; decide,λl9 hl9=>⟨fh,l9,_,["",""],rfl,rfl,SqL.of (smu hl9 _ _ eh),SqL.of aD,?_⟩⟩
   ·rintro (⟨_,h⟩ | ⟨h,_⟩ | ⟨h,_⟩)
    ·cases h
    ·exact h rfl
    ·exact h rfl
   ·have:=q _ ((hV og sh).trans (smu (o:=.lst [.str "",.str ""]) hl9)) (Th.same (smu hl9))
    rw[hb hss];exact this
  ·have l3:3<=ss.length:=by
    rw[xAa] at h3
    have:¬ ((ss.length:Int)<3):=λz=>h3 (xAm z)
    omega
   obtain⟨a,b,c',rest,rfl⟩:∃ a b c' rest,ss=a::b::c'::rest:=by
    match ss,l3 with
    | a::b::c'::rest,_=>exact⟨a,b,c',rest,rfl⟩
   have n1:=xCi.mp hnd;have n2:=xCi.mp n1.2;have hab:a≠b:=λe=>n1.1 (e▸.head _);have hac:a≠c':=λe=>n1.1 (e▸.tail _ (.head _));have hbc:b≠c':=λe=>n2.1 (e▸.head _);have ma:=hss a (.head _);have mb:=hss b (.tail _ (.head _));have mc:=hss c' (.tail _ (.tail _ (.head _)));have wm:∀ z,WfR 0 (.most z 6):=λz=>show 6<=6 by decide
   have wfg:∀ r∈([.most a 6,.most b 6,.most c' 6]:List (Rl 0)),WfR 0 r:=λr hr=>by
    rcases xAk.mp hr with rfl | hr
    ·exact wm a
    ·rcases xAk.mp hr with rfl | hr
     ·exact wm b
     ·exact xAg.mp hr▸wm c'
   have abg:∀ z∈cG 1 (.inr ([.most a 6,.most b 6,.most c' 6]:List (Rl 0))),z∈S:=λz hz=>by
    have hz:z∈[a,b,c']:=hz;rcases xAk.mp hz with rfl | hz
    ·exact ma
    ·rcases xAk.mp hz with rfl | hz
     ·exact mb
     ·exact xAg.mp hz▸mc
   have snS:∀ {l:List Str},(∀ z∈l,z∈S)->dR l:=λh z hz=>kO A.nm z (h z hz);refine⟨_,rfl,n,_,rfl,hnf,λg as H7 s7 hg eg pg=>?_⟩
   match as,pg with
   | [g1,g2,g3],.cons r1 (.cons r2 (.cons r3 .nil))=>
   have o7:=of'.trans s7;have Z7:=Zf.same s7
   have keep:∀ {H8:Hp},NTb H7 H8->H8 g=some (.lst ([g1,g2,g3].map V.ref))/\eK Cs H8 g1 (.most a 6)/\eK Cs H8 g2 (.most b 6)/\eK Cs H8 g3 (.most c' 6):=λnt=>by
    have st:∀ b o,H7 b=some o->Rq o->_:=λb o e q=>nt b o e (by cases o <;> first | trivial | exact q)
    exact⟨nt _ _ eg trivial,r1.st st,r2.st st,r3.st st⟩
   clear s7 hnf of' Zf hg;refine⟨_,rfl,λX8 d8 hX8 hd8 _=>⟨0,by decide,mU (as:=[g1,g2,g3]) (l:=([.most a 6,.most b 6,.most c' 6]:List (Rl 0))) hX8 hd8 eg (.cons r1 (.cons r2 (.cons r3 .nil))) wfg (by show 3<=4; decide) (by rw[lU]; decide) λH8 s8 R8=>⟨rfl,_,rfl,by show 0<=sizeLine; decide,λp9 hp9=>?_⟩⟩⟩;have Z9:=Z7.same (s8.trans (smu (o:=.lst []) hp9));refine Ask.many (n:=1) (row:=[]) ⟨R8.same (smu hp9),⟨by show 3<=4; decide,wfg⟩,by decide,snS abg,Z9.W,A.SO,Z9.T,aD,nil⟩ abg (λ_ hz=>nomatch hz) (aPf _) (λm=>aFy hab hac hbc ma mb mc) λf5 H5 s5 _ T5 e5=>⟨by show 2<=sizeLine; decide,λl5 hl5=>⟨f5,l5,_,["many","many"],rfl,rfl,SqL.of (smu hl5 _ _ e5),SqL.of aD,_,rfl,aKp rfl ?_⟩⟩;have o6:aM (off H7 Pr) (upd H5 l5 (.lst [.str "many",.str "many"])):=(hV (jV (s8.trans (smu hp9))) s5).trans (smu hl5);have Z6:Sit C Pr Cs x y dd k k' S (upd H5 l5 (.lst [.str "many",.str "many"])):=(Z9.off s5 T5).same (smu hl5);generalize upd H5 l5 (.lst [.str "many",.str "many"])=H6 at o6 Z6 ⊢;clear Z9 s5 T5 e5 R8 s8 hp9 hl5;obtain⟨eg6,q1,q2,q3⟩:=keep (eU Z7.T.tb o6);refine⟨_,rfl,_,rfl,g,_,rfl,SqL.of eg6,λp2 hp2 X8 d8 hX8 hd8 _=>⟨0,by decide,?_⟩⟩;rw[show jZ ([g1,g2,g3].map V.ref) none (some 2)=([g1,g2]:List Addr).map V.ref from aTp _ _ _] at hX8 hd8 ⊢
   have w2:∀ r∈([.most a 6,.most b 6]:List (Rl 0)),WfR 0 r:=λr hr=>by
    rcases xAk.mp hr with rfl | hr
    ·exact wm a
    ·exact xAg.mp hr▸wm b
   have ab2:∀ z∈cG 1 (.inr ([.most a 6,.most b 6]:List (Rl 0))),z∈S:=λz hz=>by
    have hz:z∈[a,b]:=hz;rcases xAk.mp hz with rfl | hz
    ·exact ma
    ·exact xAg.mp hz▸mb
   have st2:∀ b o,H6 b=some o->Rq o->(upd H6 p2 (.lst (([g1,g2]:List Addr).map V.ref))) b=some o:=λb o e _=>smu hp2 _ _ e;refine mU (as:=[g1,g2]) (l:=([.most a 6,.most b 6]:List (Rl 0))) hX8 hd8 aD (.cons (q1.st st2) (.cons (q2.st st2) .nil)) w2 (by show 2<=4; decide) (by rw[lU]; decide) λH8 s8 R8=>⟨rfl,_,rfl,by show 0<=sizeLine; decide,λp9 hp9=>?_⟩;have Z9:=(Z6.same (smu hp2)).same (s8.trans (smu (o:=.lst []) hp9));refine Ask.good (n:=1) (row:=[]) ⟨R8.same (smu hp9),⟨by show 2<=4; decide,w2⟩,by decide,snS ab2,Z9.W,A.SO,Z9.T,aD,nil⟩ ab2 (aPf _) aFz λf5 b5 H5 _ _ s5 _ T5 e5=>⟨f5,_,_,.str "",rfl,rfl,SqL.of e5,rfl,rfl,_,rfl,sP rfl ?_⟩;have oA:aM (off H7 Pr) H5:=hV (o6.trans ((smu hp2).trans (s8.trans (smu hp9)))) s5;have ZA:=Z9.off s5 T5;obtain⟨egA,t1,t2,t3⟩:=keep (eU Z7.T.tb oA);clear Z9 s5 T5 e5 R8 s8 hp9 hp2 hX8 hd8 o6 Z6 eg6 q1 q2 q3 st2;refine⟨_,rfl,λX8 d8 hX8 hd8 _=>⟨0,by decide,mU (as:=[g1,g2,g3]) (l:=([.most a 6,.most b 6,.most c' 6]:List (Rl 0))) hX8 hd8 egA (.cons t1 (.cons t2 (.cons t3 .nil))) wfg (by show 3<=4; decide) (by rw[lU]; decide) λH8 s8 R8=>⟨rfl,_,rfl,_,rfl,by show 3<=sizeLine; decide,λp9 hp9 X9 d9 hX9 hd9 _=>⟨1,by decide,?_⟩⟩⟩⟩;have Z9:=ZA.same (s8.trans (smu (o:=.lst [.ref X8,.ref y,.ref x]) hp9))
   have w3:∀ r∈([.inr [.most a 6,.most b 6,.most c' 6],.inl k',.inl k]:List (Rl 1)),WfR 1 r:=λr hr=>by
    rcases xAk.mp hr with rfl | hr
    ·exact⟨by show 3<=4; decide,wfg⟩
    ·rcases xAk.mp hr with rfl | hr
     ·exact A.od.wf
     ·exact xAg.mp hr▸A.wf
   have sh3:dR (cG 2 (.inr ([.inr [.most a 6,.most b 6,.most c' 6],.inl k',.inl k]:List (Rl 1)))):=λz hz=>by
    obtain⟨r,hr,hz⟩:=xBl.mp hz;rcases xAk.mp hr with rfl | hr
    ·exact snS abg z hz
    ·rcases xAk.mp hr with rfl | hr
     ·exact A.sh' z hz
     ·rw[xAg.mp hr] at hz; exact A.sh z hz
   refine mU (n:=1) (as:=[X8,y,x]) (l:=[.inr [.most a 6,.most b 6,.most c' 6],.inl k',.inl k]) hX9 hd9 aD (.cons (R8.same (smu hp9)) (.cons Z9.ry (.cons Z9.rx .nil))) w3 (by show 3<=4; decide) (by show 1+max (max (max 0 (fJ 1 (.inr ([.most a 6,.most b 6,.most c' 6]:List (Rl 0))))) 0) 0<=3; rw[lU]; decide) λHB sB RB=>⟨rfl,_,rfl,by show 0<=sizeLine; decide,λpC hpC=>?_⟩;have ZC:=Z9.same (sB.trans (smu (o:=.lst []) hpC));refine Ask.bad (n:=2) (row:=[]) ⟨RB.same (smu hpC),⟨by show 3<=4; decide,w3⟩,by decide,sh3,ZC.W,A.SO,ZC.T,aD,nil⟩ (λh=>A.bad λz hz=>h z (xBl.mpr ⟨.inl k',.tail _ (.head _),hz⟩)) λf5 H5 s5 _ T5 e5=>⟨by show 2<=sizeLine; decide,λl5 hl5=>⟨f5,l5,_,["deed","deed"],rfl,rfl,SqL.of (smu hl5 _ _ e5),SqL.of aD,?_⟩⟩;exact q _ ((hV (hV o7 (oA.trans (s8.trans ((smu hp9).trans (sB.trans (smu hpC)))))) s5).trans (smu hl5)) (T5.same (smu hl5))
end
inductive aCm (K:xAb)(Pr:Addr)(vs:List V)(H:Hp)(Q:VK)(E:XK):Prop
 | mk (a:Addr)(ns:List Int)(h0_:vs=[.ref a])(h1_:SqL K H a (ns.map V.int))(h2_:ns.length<=63)(h3_:H Pr=some (.tbl #[]))(h4_:∀ H',Q (.bl true) H')
section
variable {P:Program}{w:World}{K:xAb}{mg:xSO}{base:Heap}{Cs:Nat->Addr}{C Pr cN:Addr}{cl:Why->Addr}
abbrev N34:List Str:=["_law_script","_law_names","_law_free","_law_words","_law_cell","_law_deeds","_law_rule","_law_strange_here"]
theorem scL:aO N34 ["_law_script"] (aA aQi):=xfs
theorem aQw {f fC fT fDr fD fRO fSt fWh fBy fAl fA:Addr}{fd fdC fdT fdDr fdD fdRO fdSt fdWh fdBy fdAl fdA:FuncData}(F:Fun K "law" "law" aQi f fd)(T:Txt K mg)(CE:CaC P w K mg base 2 "_law_cell_at" fC fdC ["_law_script","_law_k"] (aHc K))(TW:CaC P w K mg base 3 "_law_two_deeds" fT fdT ["_law_cell"] aGz)
  (DR:CaC P w K mg base 1 "_law_drawn" fDr fdDr ["_law_cell","_law_names"] (aCq K))(DE:DeC P w K mg base C fD cl fdD)
  (GR:aP P w K mg base (CXE P w) 4 fRO fdRO ["_law_row"] (rH Cs cN))(kR:keepIn K (.ref fRO)=true)(bR:aS K fdRO ["_law_row"] [])(mR:mg "_law_rule_of" = some (.ref fRO))
  (ST:CaC P w K mg base 1 "_law_strange" fSt fdSt ["_law_words","_law_cell"] uB)(WH:CaC P w K mg base 6 "_law_when_made" fWh fdWh ["_law_names","_law_cell"] aGy)(BY:CaC P w K mg base 18 "_law_by_deeds" fBy fdBy NBy (aSd C Pr Cs))
  (AL:CaC P w K mg base 18 "_law_alls" fAl fdAl ["_law_rule","_law_strange_here","_law_deeds","_law_names","_law_cell"] (aHd C Pr Cs))(AS:AsC P w K mg base C Pr Cs fA fdA):aP P w K mg base CX0 19 f fd ["_law_script"] (aCm K Pr):=by
 refine F.ok scL (λvs H Q E h=>?_) (λcdv A outer s H vs Q E hr h=>?_)
 ·obtain⟨a,ns,rfl,_⟩:=h;rfl
 ·obtain⟨a,ns,rfl,hS,hlen,hPr,kq⟩:=h;have hr1:bY 1 _:=hr.mono (by decide);have hr2:bY 2 _:=hr.mono (by decide);have hr3:bY 3 _:=hr.mono (by decide);have hr4:bY 4 _:=hr.mono (by decide);have hr5:bY (4+1) _:=hr.mono (by decide);have hr6:bY 6 _:=hr.mono (by decide);have hr17:bY 17 _:=hr.mono (by decide)
  refine⟨_,aJ (aIc (aR TW.G hr3 rfl TW.m TW.k TW.b .nil aY (pac (aR CE.G hr2 (by rfl) CE.m CE.k CE.b .nil aY (pac (pv 0) (pac aN aE))) aE)) (iK rfl (cB (aW (i:=1) scL.nd rfl (xBg rfl)) (cB (aW (i:=2) scL.nd rfl (xBg rfl)) gH))))
   (aJ (bO (i:=3) scL.nd rfl (xBg rfl) (aR DR.G hr1 rfl DR.m DR.k DR.b .nil aY (pac (aR CE.G hr2 (by rfl) CE.m CE.k CE.b .nil aY (pac (pv 0) (pac aN aE))) (pac (pv 1) aE))))
   (aJ (bO (i:=4) scL.nd rfl (xBg rfl) (aR CE.G hr2 (by rfl) CE.m CE.k CE.b .nil aY (pac (pv 0) (pac aN aE))))
   (aJ (bO (i:=5) scL.nd rfl (xBg rfl) (cL DE.k DE.G hr5 rfl DE.m DE.b .nil gJ (pac (pv 1) (pac (pv 2) aE))))
   (aJ (bO (i:=6) scL.nd rfl (xBg rfl) (aR GR hr4 rfl mR kR bR .nil gJ (pac (pv 3) aE)))
   (aJ (bO (i:=7) scL.nd rfl (xBg rfl) (aR GR hr4 rfl mR kR bR .nil gJ (pac (aR ST.G hr1 (by rfl) ST.m ST.k ST.b .nil aY (pac (pv 3) (pac (pv 4) aE))) aE)))
   (aJ (cM (iV (gR (iJ (aR WH.G hr6 (by rfl) WH.m WH.k WH.b .nil aY (pac (pv 1) (pac (pv 4) aE))))) (hU (gR (iJ (aR BY.G hr (by rfl) BY.m BY.k BY.b .nil aY (pac (pv 6) (pac (pv 7) (pac (pv 3) (pac (pv 5) aE))))))))).pt (aK (aQ gN)) aZ)
   (aJ (cM (gR (iJ (aR AL.G hr (by rfl) AL.m AL.k AL.b .nil aY (pac (pv 6) (pac (pv 7) (pac (pv 5) (pac (pv 1) (pac (pv 4) aE)))))))) (aK (aQ gN)) aZ)
   (aK (aQ (aSt (iA iX (cQ dD (aR AS.G hr17 (by rfl) AS.m AS.k AS.b .nil aY (pac (pv 7) (pac (cL DE.k DE.G hr5 (by rfl) DE.m DE.b .nil gJ (pac (bX aIo (iL nK (pv 1) jU (jT aN)) (aV (pac aL aE))) (pac (iL nK (pv 2) jU (jT aN)) aE))) (pac (aV aE) aE)))) aN (λ_ _=>rfl)) aL (bJ _))
    (vX (iA pV (bV cE (by rfl) T.len Bo.len (pac (pv 1) aE)) aN (bJ _))))))))))))),?_⟩
  refine⟨_,rfl,a,ns,0,rfl,hS,RW.cellAt ns 0,rfl,λt0 l m ss fs H1 td s1 ht0 hl hm=>⟨t0,_,rfl,SqT.of ht0,rfl,_,_,rfl,_,_,rfl,rfl,?_⟩⟩;have hnm:∀ z∈ss,aU z=true:=λz hz=>zU z (td.m12 z hz);refine⟨_,rfl,a,ns,1,rfl,s1.seq hS,_,rfl,RW.cellAt ns 1,l,ss,rfl,SqL.of hl,⟨td.l2,td.le⟩,td.nd,λt k H2 s2 hk hab ht=>?_⟩;have s12:=s1.trans s2;refine⟨_,rfl,a,ns,2,rfl,s12.seq hS,?_⟩;have c0:=RW.cellAt_lo ns 2;generalize RW.cellAt ns 2=c at c0 ⊢;refine⟨_,rfl,_,rfl,λx3 d3 hx3 hd3 _=>oF (fs:=fs) hx3 hd3 (s2 _ _ hl) (.inr ⟨m,rfl,s2 _ _ hm⟩) td.le hnm td.nd td.fr (by have:=td.fl; omega) λS H3 s3 SO mS W3=>⟨rfl,?_⟩⟩;have hno:("nodeed" : Str)∉ss:=λh=>nodeed.2.1 (td.m12 _ h);refine⟨_,rfl,t,rV k,rfl,s3 _ _ ht,aCx k,λk0 e0 x4 H4 s4 R4=>?_,λe0=>xAu e0 (by rw[qO k hk]; exact λz=>nomatch z)⟩;obtain rfl:k=k0:=xBj ((qO k hk).symm.trans e0);have s14:=s3.trans s4;refine⟨_,rfl,_,rfl,t,c,k,rfl,s14 _ _ ht,hk,λh=>hno (hab _ h),λt5 k' H5 s5 od ht5=>?_⟩;refine⟨t5,rV k',rfl,ht5,aCx k',λk0 e0 x6 H6 s6 R6=>?_,λe0=>xAu e0 (by rw[qO k' od.wf]; exact λz=>nomatch z)⟩;obtain rfl:k'=k0:=xBj ((qO k' od.wf).symm.trans e0);have s26:=s14.trans (s5.trans s6);have s06:=s12.trans s26;have st:∀ {H H':Hp},aM H H'->∀ b o,H b=some o->Rq o->H' b=some o:=λs b o e _=>s b o e;have A0:Sta k k' S:=⟨SO,hk,λz hz=>(mS z).mpr (hab z hz),od,λh=>hno ((mS _).mp h),λz hz=>hnm z ((mS z).mp hz)⟩;have Z6:Sit C Pr Cs x4 x6 x3 k k' S H6:=⟨R4.st (st (s5.trans s6)),R6,dS W3 (s4.trans (s5.trans s6)),.inl (s06 _ _ hPr)⟩;have hl6:=s26 _ _ (s2 _ _ hl);refine⟨_,rfl,_,rfl,l,c,ss,rfl,hl6,by have:=td.l2; omega,c0,λH7 s7=>⟨_,rfl,gF ?_⟩⟩;have Z7:=Z6.same s7;refine⟨_,rfl,_,rfl,_,rfl,_,rfl,x4,x6,t,x3,k,k',S,rfl,Z7,A0,s7 _ _ (s6 _ _ (s5 _ _ (s14 _ _ ht))),λH8 s8 T8=>⟨_,rfl,gF ?_⟩⟩;have Z8:=Z7.off s8 T8;have n8:=eU Z7.T.tb s8;have hl8:=n8 _ _ (s7 _ _ hl6) trivial;refine⟨_,rfl,_,rfl,_,rfl,_,rfl,_,rfl,x4,x6,x3,l,c,k,k',S,ss,rfl,Z8,A0,hl8,λz hz=>(mS z).mpr hz,td.nd,λH9 s9 T9=>⟨_,rfl,gF ?_⟩⟩;have Z9:=Z8.off s9 T9;have n9:=eU Z8.T.tb s9;have hl9:=n9 _ _ hl8 trivial;have hm9:=n9 _ _ (n8 _ _ (s7 _ _ (s26 _ _ (s2 _ _ hm))) trivial) trivial;have cA:jZ (ss.map V.str) none (some 11)=(ss.take 11).map V.str:=by rw[show (11:Int)=((11:Nat):Int) from rfl,aLd,xHw]
  have cF:jZ (fs.map V.str) none (some 0)=([]:List Str).map V.str:=by rw[show (0:Int)=((0:Nat):Int) from rfl,aLd]; rfl
  have lt:(ss.take 11).length<=11:=by rw[xBb]; omega
  refine⟨_,rfl,_,rfl,_,rfl,l,_,rfl,SqL.of hl9,λpA hpA=>⟨by show 1<=sizeLine; decide,λpB hpB=>⟨pA,pB,_,[.str "nodeed"],rfl,rfl,smu hpB _ _ aD,aD,?_,λpC hpC=>?_⟩⟩⟩
  ·rw[cA,xAa];exact xAs (Nat.add_le_add_right lt 1) (by decide)
  rw[cA] at hpB hpC ⊢;have sC:=(smu (o:=.lst ((ss.take 11).map V.str)) hpA).trans ((smu (o:=.lst [.str "nodeed"]) hpB).trans (smu (o:=.lst ((ss.take 11).map V.str++[.str "nodeed"])) hpC));have eC:(upd (upd (upd H9 pA (.lst ((ss.take 11).map V.str))) pB (.lst [.str "nodeed"])) pC (.lst ((ss.take 11).map V.str++[.str "nodeed"]))) pC=some (.lst ((ss.take 11++[("nodeed" : Str)]).map V.str)):=by rw[aD,xAx]; rfl
  generalize upd (upd (upd H9 pA (.lst ((ss.take 11).map V.str))) pB (.lst [.str "nodeed"])) pC (.lst ((ss.take 11).map V.str++[.str "nodeed"]))=HC at sC eC ⊢;refine⟨_,rfl,_,rfl,m,_,rfl,SqL.of (sC _ _ hm9),λpD hpD X dX hX hdX _=>oF (ss:=ss.take 11++[("nodeed" : Str)]) (fs:=[]) hX hdX (smu hpD _ _ eC) (.inr ⟨pD,rfl,by rw[aD,cF]⟩) (by rw[xAn]; show _+1<=12; omega) (λz hz=>?_) ?_ (λ_ hz=>nomatch hz) (by decide) λS2 H2' s2' SO2 m2 W2=>⟨rfl,by show 0<=sizeLine; decide,λpE hpE=>?_⟩⟩
  ·rcases xBy.mp hz with hz | hz
   ·exact hnm z (xGb hz)
   ·exact xAg.mp hz▸nodeed.1
  ·exact xFd.mpr ⟨List.Sublist.nodup (xGv _ _) td.nd,aNb _,λy hy z hz e=>hno (by rw[<- xAg.mp hz,<- e]; exact xGb hy)⟩
  have ZE:=Z9.same (sC.trans ((smu hpD).trans (s2'.trans (smu (o:=.lst []) hpE))));have lE:=(sC.trans ((smu (o:=.lst (jZ (fs.map V.str) none (some 0))) hpD).trans (s2'.trans (smu (o:=.lst []) hpE)))) _ _ hl9;have ask:Ask C Pr Cs 0 x6 X pE k' S2 [] (upd H2' pE (.lst [])):=⟨ZE.ry,od.wf,by decide,A0.sh',dS W2 (smu hpE),SO2,ZE.T,aD,λ_ hz=>nomatch hz⟩
  by_cases hg:∀ z∈k'.about,z∈S2
  ·exact ask.good hg trivial (λh=>nomatch h) λf1 b1 HF _ _ sF _ TF eF=>⟨f1,_,_,.str "",rfl,rfl,SqL.of eF,rfl,rfl,_,rfl,iD (kq HF)⟩
  ·refine ask.bad hg λf1 HF sF _ TF eF=>⟨f1,_,_,.str "deed",rfl,rfl,SqL.of eF,rfl,rfl,_,rfl,gK (λz=>xAu z (by decide +kernel)) λ_=>?_⟩;have l11:11<ss.length:=Nat.lt_of_not_le λz=>hg λy hy=>(m2 y).mpr (xBy.mpr ((od.sub y hy).elim (λe=>.inr (e▸.head _)) λh=>.inl (by rw[xCy z]; exact hab y h)));refine⟨_,rfl,l,_,rfl,.inl (SqL.of (eU ZE.T.tb sF _ _ lE trivial)),_,_,rfl,rfl,?_⟩;rw[xAa,xAm (show ((ss.length:Nat):Int)>11 by omega)];exact kq HF
end
end
end K34
namespace K34
open PySem L2 Ky PySem.W
theorem aWk {α:Type}{p:List α->Prop}(h:∀ a b c d,p [a,b,c,d]):∀ us:List α,us.length=4->p us
 | [a,b,c,d],_=>h a b c d
theorem aWj {α:Type}{p:List α->Prop}(h:∀ a b c d e f,p [a,b,c,d,e,f]):∀ us:List α,us.length=6->p us
 | [a,b,c,d,e,f],_=>h a b c d e f
theorem aTa {α:Type}{p:List α->Prop}(h:∀ a b c d e,p [a,b,c,d,e]):∀ us:List α,us.length=5->p us
 | [a,b,c,d,e],_=>h a b c d e
def pk3 {α:Type}(a b c:α):_root_.Fin 3->α
 | 0=>a | 1=>b | 2=>c
def pk7 {α:Type}(a b c d e f g:α):_root_.Fin 7->α
 | 0=>a | 1=>b | 2=>c | 3=>d | 4=>e | 5=>f | 6=>g
def pkN (a b c d e f g:Addr):Nat->Addr
 | 0=>a | 1=>b | 2=>c | 3=>d | 4=>e | 5=>f | _=>g
def clW (a b c d:Addr):Why->Addr
 | .noName=>a | .noDeed=>b | .twice=>c | .tooMany=>d
theorem tQ {p:_root_.Fin 7->Prop}(a:p 0)(b:p 1)(c:p 2)(d:p 3)(e:p 4)(f:p 5)(g:p 6):∀ i,p i
 | 0=>a | 1=>b | 2=>c | 3=>d | 4=>e | 5=>f | 6=>g
theorem aWr {p:_root_.Fin 4->Prop}(a:p 0)(b:p 1)(c:p 2)(d:p 3):∀ i,p i
 | 0=>a | 1=>b | 2=>c | 3=>d
theorem aTg {p:_root_.Fin 3->Prop}(a:p 0)(b:p 1)(c:p 2):∀ i,p i
 | 0=>a | 1=>b | 2=>c
def aOa (p:_root_.Fin 3->Bool):Bool:=p 0&&p 1&&p 2
theorem aDw {p:_root_.Fin 3->Bool}(h:aOa p=true):∀ i,p i=true:=by
 unfold aOa at h;rw[xBh,xBh] at h;exact aTg h.1.1 h.1.2 h.2
def aWo (K:xAb)(ds:_root_.Fin 3->Addr)(W:Addr):Bool:=aOa λi=>aOa (λj=>kitOne K (.ref (ds i)) (.ref (ds j))==some (decide (i=j)))&&(kitOne K (.ref (ds i)) (.type "ValueError")==some true&&exmOne K (.ref (ds i)) (.ref W)==some true)
def eS (K:xAb)(x:Str)(st:Stmt)(f:Addr)(fd:FuncData):Prop:=nsIn K mainGlobals x=some (some (.ref f))/\Fun K x x st f fd
def dM (K:xAb)(C:Addr)(x q:Str)(st:Stmt)(f:Addr)(fd:FuncData):Prop:=findIn K (.ref C) x=some (some (.ref f))/\Fun K x q st f fd/\isFn K (.ref f)=true
theorem dM.m {K:xAb}{C:Addr}{x q:Str}{st:Stmt}{f:Addr}{fd:FuncData}(h:dM K C x q st f fd):eI K C x f:=⟨h.1,h.2.2,h.2.1.2⟩
theorem bn {K:xAb}{x q:Str}{st:Stmt}{f:Addr}{fd:FuncData}{ps:List Str}(F:Fun K x q st f fd)
  (h:∀ (kV doc pm:Value) (an:Option Addr) (cdv ct:Value) (us:List Value),us.length=ps.length->bindArgs (fnOf x q (aG st) (aF st) (aA st) .none kV doc pm an cdv ct) ⟨us,[]⟩=pure (ps.zip us):=by
   intro _ _ _ _ _ _
   first
    | exact aWl (λ_=>rfl)
    | exact aTc (λ_ _=>rfl)
    | exact aTb (λ_ _ _=>rfl)
    | exact aWk (λ_ _ _ _=>rfl)
    | exact aTa (λ_ _ _ _ _=>rfl)):aS K fd ps []:=F.binds h
theorem all_mk {l:OpenLaw}{w:World}{K:xAb}{h:Heap}{mg:xSO}{fa f1 f2 f3 f4 f5 f6 f7 f8 f9 f10 f11 f12 f13 f14 f15 f16 f17 f18 f19 f20 f21 f22 f23 f24 f25 f26 f27 f28 f29 f30 f31 f32 f33 f34 fm0 fm1 fM0 fM1 fM2 fM3 fM4 fM5 fM6 fV0 fV1 fV2 fV3 fV4 fV5 fV6 fV7 fR fMI fI fi0 fm0_ fi1 fm1_ fi2 fm2_ fi3 fm3_ fi4 fm4_ fi5 fm5_ fi6 fm6_ fb0 fb1 fb2 fb6 fe0 fe6 fZ C CM CW CT W cR Pr Td Te R0 R1 R2 R3 R4 R5 R6 d0 d1 d2 d3 d4 d5:Addr}(X:K.In h)(G:h.Ns mainGlobals mg)(hfa:mg "law"=some (.ref fa))
  {fd1 fd2 fd3 fd4 fd5 fd6 fd7 fd8 fd9 fd10 fd11 fd12 fd13 fd14 fd15 fd16 fd17 fd18 fd19 fd20 fd21 fd22 fd23 fd24 fd25 fd26 fd27 fd28 fd29 fd30 fd31 fd32 fd33 fd34 fdm0 fdm1 fdM0 fdM1 fdM2 fdM3 fdM4 fdM5 fdM6 fdV0 fdV1 fdV2 fdV3 fdV4 fdV5 fdV6 fdV7 fdi0 fdm0_ fdi1 fdm1_ fdi2 fdm2_ fdi3 fdm3_ fdi4 fdm4_ fdi5 fdm5_ fdi6 fdm6_ fdb0 fdb1 fdb2 fdb6 fde0 fde6 fdZ:FuncData}{ocR kVR dcR pmR ctR:Value}{odR anR:Option Addr}{slR:xAO}{ocMI kVMI dcMI pmMI ctMI cdMI:Value}{odMI anMI:Option Addr}{slMI:xAO}{ocE ocT:Value}{odE odT:Option Addr}{slE slT:xAO}{nE nT:Nat}{ocI kVI dcI pmI ctI cdI:Value}{odI anI:Option Addr}{slI:xAO}{t0 t1 t2 t3 t4 t5 t6 t7 t8:Tok}
  (a1:eS K "_law_mixed" rR f1 fd1)
  (a2:eS K "_law_cell_at" aHs f2 fd2)
  (a3:eS K "is_name" nL f3 fd3)
  (a4:eS K "refuse_names" vO f4 fd4)
  (a5:eS K "weights_of" rO f5 fd5)
  (a6:eS K "marks_of" aAa f6 fd6)
  (a7:eS K "_law_names_by" kP f7 fd7)
  (a8:eS K "_law_deeds_by" nN f8 fd8)
  (a9:eS K "named_rooms" zY f9 fd9)
  (a10:eS K "refuse_rooms" oX f10 fd10)
  (a11:eS K "leads_of" aAb f11 fd11)
  (a12:eS K "begin_of" nO f12 fd12)
  (a13:eS K "far_of" vQ f13 fd13)
  (a14:eS K "rows_to" vN f14 fd14)
  (a15:eS K "come_to" vR f15 fd15)
  (a16:eS K "known_of" rS f16 fd16)
  (a17:eS K "made_one" nM f17 fd17)
  (a18:eS K "all_at_ends" nQ f18 fd18)
  (a19:eS K "is_times" zW f19 fd19)
  (a20:eS K "keeps" aAc f20 fd20)
  (a21:eS K "_law_rule_of" vM f21 fd21)
  (a22:eS K "_law_drawn" aAd f22 fd22)
  (a23:eS K "_law_two_deeds" aQh f23 fd23)
  (a24:eS K "_law_kind" aHq f24 fd24)
  (a25:eS K "_law_made" aHp f25 fd25)
  (a26:eS K "_law_all" aHu f26 fd26)
  (a27:eS K "_law_asked" aAf f27 fd27)
  (a28:eS K "_law_deep" aHr f28 fd28)
  (a29:eS K "_law_strange" rP f29 fd29)
  (a30:eS K "_law_great" vP f30 fd30)
  (a31:eS K "_law_when_made" aHl f31 fd31)
  (a32:eS K "_law_by_deeds" sBy f32 fd32)
  (a33:eS K "_law_alls" aHt f33 fd33)
  (a34:eS K "law" aQi f34 fd34)
  (aC:nsIn K mainGlobals "Deeds"=some (some (.ref C)))
  (qm0:dM K C "has" "Deeds.has" aMe fm0 fdm0)
  (qm1:dM K C "require" "Deeds.require" rQ fm1 fdm1)
  (aCM:nsIn K mainGlobals "Machine"=some (some (.ref CM)))
  (qM0:dM K CM "deeds" "Machine.deeds" aBf fM0 fdM0)
  (qM1:dM K CM "begin" "Machine.begin" aBg fM1 fdM1)
  (qM2:dM K CM "knows" "Machine.knows" aBd fM2 fdM2)
  (qM3:dM K CM "goes" "Machine.goes" aKg fM3 fdM3)
  (qM4:dM K CM "require_room" "Machine.require_room" sM fM4 fdM4)
  (qM5:dM K CM "is_end" "Machine.is_end" aBe fM5 fdM5)
  (qM6:dM K CM "behind" "Machine.behind" wF fM6 fdM6)
  (aCW:nsIn K mainGlobals "Woven"=some (some (.ref CW)))
  (qV0:dM K CW "deeds" "Woven.deeds" zI fV0 fdV0)
  (qV1:dM K CW "begin" "Woven.begin" zJ fV1 fdV1)
  (qV2:dM K CW "knows" "Woven.knows" zG fV2 fdV2)
  (qV3:dM K CW "at" "Woven.at" wAt fV3 fdV3)
  (qV4:dM K CW "to" "Woven.to" wTo fV4 fdV4)
  (qV5:dM K CW "ways" "Woven.ways" aBy fV5 fdV5)
  (qV6:dM K CW "__init__" "Woven.__init__" aGm fV6 fdV6)
  (qV7:dM K CW "is_end" "Woven.is_end" zH fV7 fdV7)
  (qR:eI K CW "rooms" fR)
  (lR:K.lookup fR=some ⟨ocR,odR,.func (fnOf "rooms" "Woven.rooms" (aG gP) (aF gP) (aA gP) .none kVR dcR pmR anR (.ref cR) ctR),slR⟩)
  (cR_:codeIn K (.ref cR) "Woven.rooms"=true)
  (hh2:codeHdIn K cR Pr=true)
  (WC:tJ K CW)
  (mkV:makesIn K CW=true)
  (kpV:keepIn K (.ref CW)=true)
  (MMk:Mk K CM fMI)
  (lMI:K.lookup fMI=some ⟨ocMI,odMI,.func (fnOf "__init__" "Machine.__init__" (aG hZ) (aF hZ) (aA hZ) (.ref Te) kVMI dcMI pmMI anMI cdMI ctMI),slMI⟩)
  (cMI:codeIn K cdMI "Machine.__init__"=true)
  (kMI:keepIn K (.ref fMI)=true)
  (lE:K.lookup Te=some ⟨ocE,odE,.seq #[.none] nE,slE⟩)
  (MC:nA K CM)
  (MI:Mk K C fI)
  (lI:K.lookup fI=some ⟨ocI,odI,.func (fnOf "__init__" "Deeds.__init__" (aG iI) (aF iI) (aA iI) (.ref Td) kVI dcI pmI anI cdI ctI),slI⟩)
  (cI:codeIn K cdI "Deeds.__init__"=true)
  (kI:keepIn K (.ref fI)=true)
  (lT:K.lookup Td=some ⟨ocT,odT,.seq #[.none] nT,slT⟩)
  (DC:zE K C)
  (ar0:nsIn K mainGlobals "Never"=some (some (.ref R0)))
  (qi0:dM K R0 "__init__" "Never.__init__" aKb fi0 fdi0)
  (qm0_:dM K R0 "machine" "Never.machine" aKa fm0_ fdm0_)
  (mk0:makesIn K R0=true)
  (kp0:keepIn K (.ref R0)=true)
  (rc0:iS K R0)
  (ar1:nsIn K mainGlobals "Most"=some (some (.ref R1)))
  (qi1:dM K R1 "__init__" "Most.__init__" aJw fi1 fdi1)
  (qm1_:dM K R1 "machine" "Most.machine" xZ fm1_ fdm1_)
  (mk1:makesIn K R1=true)
  (kp1:keepIn K (.ref R1)=true)
  (rc1:iS K R1)
  (ar2:nsIn K mainGlobals "Ahead"=some (some (.ref R2)))
  (qi2:dM K R2 "__init__" "Ahead.__init__" aLk fi2 fdi2)
  (qm2_:dM K R2 "machine" "Ahead.machine" aLj fm2_ fdm2_)
  (mk2:makesIn K R2=true)
  (kp2:keepIn K (.ref R2)=true)
  (rc2:iS K R2)
  (ar3:nsIn K mainGlobals "Turns"=some (some (.ref R3)))
  (qi3:dM K R3 "__init__" "Turns.__init__" aGr fi3 fdi3)
  (qm3_:dM K R3 "machine" "Turns.machine" aGq fm3_ fdm3_)
  (mk3:makesIn K R3=true)
  (kp3:keepIn K (.ref R3)=true)
  (rc3:iS K R3)
  (ar4:nsIn K mainGlobals "Hold"=some (some (.ref R4)))
  (qi4:dM K R4 "__init__" "Hold.__init__" aKr fi4 fdi4)
  (qm4_:dM K R4 "machine" "Hold.machine" aKq fm4_ fdm4_)
  (mk4:makesIn K R4=true)
  (kp4:keepIn K (.ref R4)=true)
  (rc4:iS K R4)
  (ar5:nsIn K mainGlobals "Answer"=some (some (.ref R5)))
  (qi5:dM K R5 "__init__" "Answer.__init__" aBv fi5 fdi5)
  (qm5_:dM K R5 "machine" "Answer.machine" aBu fm5_ fdm5_)
  (mk5:makesIn K R5=true)
  (kp5:keepIn K (.ref R5)=true)
  (rc5:iS K R5)
  (ar6:nsIn K mainGlobals "All"=some (some (.ref R6)))
  (qi6:dM K R6 "__init__" "All.__init__" aKl fi6 fdi6)
  (qm6_:dM K R6 "machine" "All.machine" aDi fm6_ fdm6_)
  (mk6:makesIn K R6=true)
  (kp6:keepIn K (.ref R6)=true)
  (clL:Cls K R6)
  (naL:dB K R6 "rules")
  (qb0:dM K R0 "about" "Never.about" aBa fb0 fdb0)
  (qb1:dM K R1 "about" "Most.about" aAy fb1 fdb1)
  (qb2:dM K R2 "about" "OfTwo.about" oT fb2 fdb2)
  (qb3:dM K R3 "about" "OfTwo.about" oT fb2 fdb2)
  (qb4:dM K R4 "about" "OfTwo.about" oT fb2 fdb2)
  (qb5:dM K R5 "about" "OfTwo.about" oT fb2 fdb2)
  (qb6:dM K R6 "about" "All.about" wG fb6 fdb6)
  (qe0:dM K R0 "deep" "Rule.deep" pT fe0 fde0)
  (qe1:dM K R1 "deep" "Rule.deep" pT fe0 fde0)
  (qe2:dM K R2 "deep" "Rule.deep" pT fe0 fde0)
  (qe3:dM K R3 "deep" "Rule.deep" pT fe0 fde0)
  (qe4:dM K R4 "deep" "Rule.deep" pT fe0 fde0)
  (qe5:dM K R5 "deep" "Rule.deep" pT fe0 fde0)
  (qe6:dM K R6 "deep" "All.deep" yK fe6 fde6)
  (aT:nsIn K mainGlobals "OfTwo"=some (some (.ref CT)))
  (qZ:dM K CT "__init__" "OfTwo.__init__" aGu fZ fdZ)
  (sT:specialIn K (.ref CT) "__getattribute__" = some (some (.builtin "type.__getattribute__")))
  (rT:readsIn K CT (.type "type")=true)
  (fT_:findCls K (.ref CT) (.type "type") "__init__" = some (.val (.ref fZ)))
  (hT:handedIn (.ref fZ)=true)
  (e0:nsIn K mainGlobals "NoName"=some (some (.ref d0)))
  (e1:nsIn K mainGlobals "NoDeed"=some (some (.ref d1)))
  (e2:nsIn K mainGlobals "NoRoom"=some (some (.ref d2)))
  (e3:nsIn K mainGlobals "TwiceTold"=some (some (.ref d3)))
  (e4:nsIn K mainGlobals "TooMany"=some (some (.ref d4)))
  (e5:nsIn K mainGlobals "NoRule"=some (some (.ref d5)))
  (eW:nsIn K mainGlobals "WardError"=some (some (.ref W)))
  (xa0:nF K d0)
  (xa2:nF K d2)
  (xa3:nF K d3)
  (xk1:tT K d1)
  (xk4:tT K d4)
  (xk5:tT K d5)
  (kt:aWo K (pk3 d1 d5 d4) W=true)
  (cst0:nsIn K mainGlobals "LETTERS"=some (some (.str iY t0)))
  (cst1:nsIn K mainGlobals "FIGURES"=some (some (.str jY t1)))
  (cst2:nsIn K mainGlobals "MOST_SIGNS"=some (some (.int 8 t2)))
  (cst3:nsIn K mainGlobals "MOST_DEEDS"=some (some (.int 12 t3)))
  (cst4:nsIn K mainGlobals "MOST_ROOMS"=some (some (.int 60 t4)))
  (cst5:nsIn K mainGlobals "MOST_WOVEN"=some (some (.int 7 t5)))
  (cst6:nsIn K mainGlobals "MOST_TIMES"=some (some (.int 6 t6)))
  (cst7:nsIn K mainGlobals "MOST_RULES"=some (some (.int 4 t7)))
  (cst8:nsIn K mainGlobals "MOST_DEEP"=some (some (.int 3 t8)))
  (z0:nsIn K mainGlobals "isinstance"=some none)
  (z1:nsIn K mainGlobals "str"=some none)
  (z2:nsIn K mainGlobals "bool"=some none)
  (z3:nsIn K mainGlobals "int"=some none)
  (z4:nsIn K mainGlobals "len"=some none)
  (z5:nsIn K mainGlobals "all"=some none)
  (z6:nsIn K mainGlobals "range"=some none)
  (z7:nsIn K mainGlobals "sorted"=some none)
  (z8:nsIn K mainGlobals "list"=some none)
  (z9:nsIn K mainGlobals "enumerate"=some none)
  (z10:nsIn K mainGlobals "ValueError"=some none)
  (z11:nsIn K mainGlobals "tuple"=some none)
  (z12:nsIn K mainGlobals "zip"=some none)
  (z13:nsIn K mainGlobals "max"=some none) :
  ∃ fd:FuncData,(∀ (s:Shared) (v:Value),BindsTo s fd ⟨[v],[]⟩ [("_law_script",v)])/\∀ base:Heap,K.In base->base.Ns mainGlobals mg->oP mg base->aP l.prog w K mg base CX0 19 fa fd ["_law_script"] (aCm K Pr):=by
 obtain⟨a1,F1⟩:=a1;obtain⟨a2,F2⟩:=a2;obtain⟨a3,F3⟩:=a3;obtain⟨a4,F4⟩:=a4;obtain⟨a5,F5⟩:=a5;obtain⟨a6,F6⟩:=a6;obtain⟨a7,F7⟩:=a7;obtain⟨a8,F8⟩:=a8;obtain⟨a9,F9⟩:=a9;obtain⟨a10,F10⟩:=a10;obtain⟨a11,F11⟩:=a11;obtain⟨a12,F12⟩:=a12;obtain⟨a13,F13⟩:=a13;obtain⟨a14,F14⟩:=a14;obtain⟨a15,F15⟩:=a15;obtain⟨a16,F16⟩:=a16;obtain⟨a17,F17⟩:=a17;obtain⟨a18,F18⟩:=a18;obtain⟨a19,F19⟩:=a19;obtain⟨a20,F20⟩:=a20;obtain⟨a21,F21⟩:=a21;obtain⟨a22,F22⟩:=a22;obtain⟨a23,F23⟩:=a23;obtain⟨a24,F24⟩:=a24;obtain⟨a25,F25⟩:=a25;obtain⟨a26,F26⟩:=a26;obtain⟨a27,F27⟩:=a27;obtain⟨a28,F28⟩:=a28;obtain⟨a29,F29⟩:=a29;obtain⟨a30,F30⟩:=a30;obtain⟨a31,F31⟩:=a31;obtain⟨a32,F32⟩:=a32;obtain⟨a33,F33⟩:=a33;obtain⟨a34,F34⟩:=a34;have Fm0:=qm0.2.1;have Fm1:=qm1.2.1;have FM0:=qM0.2.1;have FM1:=qM1.2.1;have FM2:=qM2.2.1;have FM3:=qM3.2.1;have FM4:=qM4.2.1;have FM5:=qM5.2.1;have FM6:=qM6.2.1;have FV0:=qV0.2.1;have FV1:=qV1.2.1;have FV2:=qV2.2.1;have FV3:=qV3.2.1;have FV4:=qV4.2.1;have FV5:=qV5.2.1;have FV6:=qV6.2.1;have FV7:=qV7.2.1;have e:=hfa.symm.trans (xAe X G a34);cases e;have T:Txt K mg:=⟨⟨_,xAe X G cst0⟩,⟨_,xAe X G cst1⟩,⟨_,xAe X G cst2⟩,⟨_,xAe X G cst3⟩,(xBr X G z0),(xBr X G z1),(xBr X G z2),(xBr X G z3),(xBr X G z4),(xBr X G z5),(xBr X G z6),(xBr X G z7),(xBr X G z8),(xBr X G z9)⟩;have FI:aLr K "__init__" "Deeds.__init__" iI fI _:=⟨⟨_,_,_,_,_,_,_,_,_,_,rfl,lI,cI⟩,kI⟩
 have bI:aS K _ ["self","names","free"] []:=λs us KX hl=>by
  rw[xBk] at hl ⊢;revert us;exact aTb λ_ _ _=>BindsTo.of_defaults (fd:=fnOf "__init__" "Deeds.__init__" (aG iI) (aF iI) (aA iI) (.ref Td) kVI dcI pmI anI cdI ctI) rfl (KX _ _ lT) rfl rfl rfl
 have bI1:aS K (fnOf "__init__" "Deeds.__init__" (aG iI) (aF iI) (aA iI) (.ref Td) kVI dcI pmI anI cdI ctI) ["self","names","free"] [.none]:=λs us KX hl=>by
  have hl':us.length=2:=by
   have:us.length+1=3:=by simpa using hl
   omega
  clear hl;revert us;exact aTc λ_ _=>BindsTo.of_defaults (fd:=fnOf "__init__" "Deeds.__init__" (aG iI) (aF iI) (aA iI) (.ref Td) kVI dcI pmI anI cdI ctI) rfl (KX _ _ lT) rfl rfl rfl
 have FMI:aLr K "__init__" "Machine.__init__" hZ fMI _:=⟨⟨_,_,_,_,_,_,_,_,_,_,rfl,lMI,cMI⟩,kMI⟩
 have bMI:aS K _ ["self","deeds","begin","ends","doors","more"] []:=λs us KX hl=>by
  rw[xBk] at hl ⊢;revert us;exact aWj λ_ _ _ _ _ _=>BindsTo.of_defaults (fd:=fnOf "__init__" "Machine.__init__" (aG hZ) (aF hZ) (aA hZ) (.ref Te) kVMI dcMI pmMI anMI cdMI ctMI) rfl (KX _ _ lE) rfl rfl rfl
 have bMI1:aS K (fnOf "__init__" "Machine.__init__" (aG hZ) (aF hZ) (aA hZ) (.ref Te) kVMI dcMI pmMI anMI cdMI ctMI) ["self","deeds","begin","ends","doors","more"] [.none]:=λs us KX hl=>by
  have hl':us.length=5:=by
   have:us.length+1=6:=by simpa using hl
   omega
  clear hl;revert us;exact aTa λ_ _ _ _ _=>BindsTo.of_defaults (fd:=fnOf "__init__" "Machine.__init__" (aG hZ) (aF hZ) (aA hZ) (.ref Te) kVMI dcMI pmMI anMI cdMI ctMI) rfl (KX _ _ lE) rfl rfl rfl
 have Ex:Exc K mg (clW d0 d1 d3 d4):=⟨xAe X G e0,xAe X G e1,xAe X G e3,xAe X G e4,λk=>match k with | .noName=>xa0 | .noDeed=>xk1.exc | .twice=>xa3 | .tooMany=>xk4.exc⟩
 have kq:=aDw kt;have W_:Kd K mg (pk3 d1 d5 d4) W:=⟨xAe X G e1,xAe X G e5,xAe X G e4,aTg xk1 xk5 xk4,λi j=>xDy.mp (aDw (xCk.mp (kq i)).1 j),λi=>xDy.mp (xCk.mp (xCk.mp (kq i)).2).1,(xBr X G z10),xAe X G eW,λi=>xDy.mp (xCk.mp (xCk.mp (kq i)).2).2⟩;have WMk:Mk K CW fV6:=⟨mkV,qV6.1,qV6.2.2,kpV⟩;refine⟨fd34,λs v=>?_,λbase KB GB0 bm=>?_⟩
 rotate_left
 ·have GQ:=aAo (P:=l.prog) (w:=w) (mg:=mg) (base:=base) Fm1 T Ex DC F3 (bn F3) (xAe X G a3) Fm0 (bn Fm0) qm0.m;have GK:=aJb (P:=l.prog) (w:=w) (mg:=mg) (base:=base) F6 T;have GC:=aMw (P:=l.prog) (w:=w) (mg:=mg) (base:=base) F2 T F1 (bn F1) (xAe X G a1);have zT:mg "tuple"=none:=(xBr X G z11);have zZ:mg "zip"=none:=(xBr X G z12);have GB:=aFc (P:=l.prog) (w:=w) (mg:=mg) (base:=base) FM1 MC;have GKn:=aEz (P:=l.prog) (w:=w) (mg:=mg) (base:=base) FM2 T MC;have GGo:=aJe (P:=l.prog) (w:=w) (mg:=mg) (base:=base) FM3 MC;have GMD:=aFb (P:=l.prog) (w:=w) (mg:=mg) (base:=base) FM0 MC;have GBO:=aAu (P:=l.prog) (w:=w) (mg:=mg) (base:=base) F12 zT MC GB (bn FM1) qM1.m;have GFO:=aJn (P:=l.prog) (w:=w) (mg:=mg) (base:=base) F13 zT zZ MC GGo (bn FM3) qM3.m;have GKO:=aAs (P:=l.prog) (w:=w) (mg:=mg) (base:=base) F16 MC GKn (bn FM2) qM2.m GK F6.2 (bn F6) (xAe X G a6);have GWI:aP l.prog w K mg base (CXE l.prog w) 3 fV6 _ ["self","machines"] (vG CM CW d4):=aIq FV6 T WC ⟨_,xAe X G cst5⟩ (xAe X G e4) xk4.exc GKO F16.2 (bn F16) (xAe X G a16);have GWD:=aEr (P:=l.prog) (w:=w) (mg:=mg) (base:=base) FV0 WC MC GMD (bn FM0) qM0.m;have GWB:=aEs (P:=l.prog) (w:=w) (mg:=mg) (base:=base) FV1 WC GBO F12.2 (bn F12) (xAe X G a12);have GWK:=aEp (P:=l.prog) (w:=w) (mg:=mg) (base:=base) (CM:=CM) FV2 T WC;have GWT:aP l.prog w K mg base (CXE l.prog w) 4 fV4 _ ["self","room","deed"] (aCf K C CM CW d1):=aQu (cl:=clW d0 d1 d3 d4) FV4 DC WC GWD (bn FV0) qV0.m GQ (bn Fm1) qm1.m GFO F13.2 (bn F13) (xAe X G a13);have GWA:=aQv (P:=l.prog) (w:=w) (mg:=mg) (base:=base) FV3 WC GWK (bn FV2) qV2.m GWT (bn FV4) qV4.m;have GWY:=aIp (P:=l.prog) (w:=w) (mg:=mg) (base:=base) FV5 WC GWA (bn FV3) qV3.m GWT (bn FV4) qV4.m;have GRT:=aEv (P:=l.prog) (w:=w) (mg:=mg) (base:=base) (kd:=7) (cT:=d4) F14 T (xAe X G e4) xk4.exc;have GCT:=aFe (P:=l.prog) (w:=w) (mg:=mg) (base:=base) (kd:=7) (cT:=d4) F15 T GRT F14.2 (bn F14) (xAe X G a14);have GWR:=aEo (P:=l.prog) (w:=w) (mg:=mg) (base:=base) (C:=C) (CM:=CM) (CW:=CW) (cT:=d4) (Pr:=Pr) lR cR_ hh2 bm WC ⟨_,xAe X G cst4⟩ GWB (bn FV1) qV1.m GWY (bn FV5) qV5.m GCT F15.2 (bn F15) (xAe X G a15);have GRq:=aJd (P:=l.prog) (w:=w) (mg:=mg) (base:=base) FM4 T MC (xAe X G e2) xa2 F3 (bn F3) (xAe X G a3);have GEd:=aAq (P:=l.prog) (w:=w) (mg:=mg) (base:=base) FM5 MC GRq (bn FM4) qM4.m;have GAE:=aAv (P:=l.prog) (w:=w) (mg:=mg) (base:=base) F18 T zZ MC GEd (bn FM5) qM5.m;have GWE:=aEq (P:=l.prog) (w:=w) (mg:=mg) (base:=base) FV7 WC GAE F18.2 (bn F18) (xAe X G a18);have GMI0:=aFa (P:=l.prog) (w:=w) (mg:=mg) (base:=base) (cl:=clW d0 d1 d3 d4) FMI T DC MC ⟨_,xAe X G cst4⟩ (aIy F9) F9.2 (bn F9) (xAe X G a9) (xX F10 T Ex F3 (bn F3) (xAe X G a3)) F10.2 (bn F10) (xAe X G a10) (aJf F11) F11.2 (bn F11) (xAe X G a11) GK F6.2 (bn F6) (xAe X G a6) GQ (bn Fm1) qm1.m;have GMI:aP l.prog w K mg base (CXE l.prog w) 4 fMI _ ["self","deeds","begin","ends","doors","more"] (nJ K C CM):=aP.weaker GMI0 λ_ _ _ _ h=>nJ.toD h;have FR:=fun_mk (st:=gP) lR cR_ qR.kp;have GMO:=aMt (P:=l.prog) (w:=w) (mg:=mg) (base:=base) (C:=C) (CM:=CM) (CW:=CW) (cT:=d4) (Pr:=Pr) F17 T WC GWR (bn FR) qR GWY (bn FV5) qV5.m GWE (bn FV7) qV7.m GWD (bn FV0) qV0.m GWB (bn FV1) qV1.m GWK (bn FV2) qV2.m GMI MMk bMI (xAe X G aCM);have MK:MkC l.prog w K mg base C CM fMI (clW d0 d1 d3 d4) _:=⟨GMI0,MMk,xAe X G aCM,bMI,bMI1⟩;have DE:DeC l.prog w K mg base C fI (clW d0 d1 d3 d4) _:=⟨aMv FI T DC (aEw F4 T Ex F3 (bn F3) (xAe X G a3)) F4.2 (bn F4) (xAe X G a4) (aAm F5 T) F5.2 (bn F5) (xAe X G a5) GK F6.2 (bn F6) (xAe X G a6) GQ (bn Fm1) qm1.m,MI,xAe X G aC,bI,bI1⟩;have Ma:Fam K (pkN R0 R1 R2 R3 R4 R5 R6) "about" ["self"] (pk7 fb0 fb1 fb2 fb2 fb2 fb2 fb6) (pk7 fdb0 fdb1 fdb2 fdb2 fdb2 fdb2 fdb6):=⟨tQ rc0.cl rc1.cl rc2.cl rc3.cl rc4.cl rc5.cl clL,tQ qb0.m qb1.m qb2.m qb3.m qb4.m qb5.m qb6.m,tQ (bn qb0.2.1) (bn qb1.2.1) (bn qb2.2.1) (bn qb2.2.1) (bn qb2.2.1) (bn qb2.2.1) (bn qb6.2.1)⟩;have Me:Fam K (pkN R0 R1 R2 R3 R4 R5 R6) "deep" ["self"] (pk7 fe0 fe0 fe0 fe0 fe0 fe0 fe6) (pk7 fde0 fde0 fde0 fde0 fde0 fde0 fde6):=⟨Ma.c,tQ qe0.m qe1.m qe2.m qe3.m qe4.m qe5.m qe6.m,tQ (bn qe0.2.1) (bn qe0.2.1) (bn qe0.2.1) (bn qe0.2.1) (bn qe0.2.1) (bn qe0.2.1) (bn qe6.2.1)⟩;have Mm:Fam K (pkN R0 R1 R2 R3 R4 R5 R6) "machine" ["self","deeds"] (pk7 fm0_ fm1_ fm2_ fm3_ fm4_ fm5_ fm6_) (pk7 fdm0_ fdm1_ fdm2_ fdm3_ fdm4_ fdm5_ fdm6_):=⟨Ma.c,tQ qm0_.m qm1_.m qm2_.m qm3_.m qm4_.m qm5_.m qm6_.m,tQ (bn qm0_.2.1) (bn qm1_.2.1) (bn qm2_.2.1) (bn qm3_.2.1) (bn qm4_.2.1) (bn qm5_.2.1) (bn qm6_.2.1)⟩;have RCv:∀ v:_root_.Fin 4,iS K (pkN R0 R1 R2 R3 R4 R5 R6 (2+v)):=aWr rc2 rc3 rc4 rc5;have Gb0:=aEy (P:=l.prog) (w:=w) (mg:=mg) (base:=base) (Cs:=pkN R0 R1 R2 R3 R4 R5 R6) qb0.2.1 rc0;have Gb1:=aEx (P:=l.prog) (w:=w) (mg:=mg) (base:=base) (Cs:=pkN R0 R1 R2 R3 R4 R5 R6) qb1.2.1 rc1;have Gb2:=λv=>aEt (P:=l.prog) (w:=w) (mg:=mg) (base:=base) (Cs:=pkN R0 R1 R2 R3 R4 R5 R6) v qb2.2.1 (RCv v);have GA:=aRp (P:=l.prog) (w:=w) (mg:=mg) (base:=base) (Cs:=pkN R0 R1 R2 R3 R4 R5 R6) (fs:=pk7 fb0 fb1 fb2 fb2 fb2 fb2 fb6) (fds:=pk7 fdb0 fdb1 fdb2 fdb2 fdb2 fdb2 fdb6) (tQ (λ_=>Gb0) (λ_=>Gb1) (λ_=>Gb2 0) (λ_=>Gb2 1) (λ_=>Gb2 2) (λ_=>Gb2 3) (λh=>xAu h (by decide))) qb6.2.1 naL Ma;have Ge0:=aIv (P:=l.prog) (w:=w) (mg:=mg) (base:=base) qe0.2.1;have GD:=aTm (P:=l.prog) (w:=w) (mg:=mg) (base:=base) (Cs:=pkN R0 R1 R2 R3 R4 R5 R6) (fs:=pk7 fe0 fe0 fe0 fe0 fe0 fe0 fe6) (fds:=pk7 fde0 fde0 fde0 fde0 fde0 fde0 fde6) (tQ (λ_=>Ge0) (λ_=>Ge0) (λ_=>Ge0) (λ_=>Ge0) (λ_=>Ge0) (λ_=>Ge0) (λh=>xAu h (by decide))) qe6.2.1 naL (xBr X G z13) Me
  have GM:=aSz (P:=l.prog) (w:=w) (mg:=mg) (base:=base) (Cs:=pkN R0 R1 R2 R3 R4 R5 R6) (fs:=pk7 fm0_ fm1_ fm2_ fm3_ fm4_ fm5_ fm6_) (fds:=pk7 fdm0_ fdm1_ fdm2_ fdm3_ fdm4_ fdm5_ fdm6_) (C:=C) (CM:=CM) (cT:=d4) (Pr:=Pr) (cl:=clW d0 d1 d3 d4)
   (tQ (λ_=>aIz qm0_.2.1 rc0 MK Gb0 (bn qb0.2.1) qb0.m) (λ_=>aIw qm1_.2.1 T rc1 MK Gb1 (bn qb1.2.1) qb1.m) (λ_=>aJr qm2_.2.1 rc2 MK) (λ_=>aIr qm3_.2.1 rc3 MK) (λ_=>aJk qm4_.2.1 rc4 MK) (λ_=>aFf qm5_.2.1 rc5 MK) (λh=>xAu h (by decide)))
   λn Gn=>aJg (fs:=pk7 fm0_ fm1_ fm2_ fm3_ fm4_ fm5_ fm6_) (fds:=pk7 fdm0_ fdm1_ fdm2_ fdm3_ fdm4_ fdm5_ fdm6_) qm6_.2.1 DC naL MK Ma GA GQ (bn Fm1) qm1.m GWI WMk (xAe X G aCW) (bn FV6) GMO F17.2 (bn F17) (xAe X G a17) Mm Gn
  have GBh:=aAr (P:=l.prog) (w:=w) (mg:=mg) (base:=base) (cl:=clW d0 d1 d3 d4) FM6 T DC MC GGo (bn FM3) qM3.m GQ (bn Fm1) qm1.m;have GKe:=λn=>aJj (P:=l.prog) (w:=w) (mg:=mg) (base:=base) (cl:=clW d0 d1 d3 d4) (cT:=d4) (Pr:=Pr) F20 MC Mm GM GBh (bn FM6) qM6.m n;have GT:=aIt (P:=l.prog) (w:=w) (mg:=mg) (base:=base) F19 T ⟨_,xAe X G cst6⟩;have mNR:=xAe X G e5;have W2:aLm l.prog w K mg base CT fZ d5 fdZ:=⟨xAe X G aT,sT,rT,fT_,hT,qZ.2.1.2,aIu qZ.2.1 mNR xk5.exc,bn qZ.2.1⟩;have MO:CkC l.prog w K mg base (CXE l.prog w) 2 "Most" R1 fi1 fdi1 ["self","deed","many"] (qM R1 d5):=⟨aIx qi1.2.1 rc1 mNR xk5.exc GT F19.2 (bn F19) (xAe X G a19),⟨mk1,qi1.1,qi1.2.2,kp1⟩,bn qi1.2.1,xAe X G ar1⟩
  have GRO:=aEu (P:=l.prog) (w:=w) (mg:=mg) (base:=base) (Cs:=pkN R0 R1 R2 R3 R4 R5 R6) (cN:=d5) F21 RCv ⟨aJa qi0.2.1 rc0,⟨mk0,qi0.1,qi0.2.2,kp0⟩,bn qi0.2.1,xAe X G ar0⟩ MO
   ⟨aJs qi2.2.1 W2,⟨mk2,qi2.1,qi2.2.2,kp2⟩,bn qi2.2.1,xAe X G ar2⟩ ⟨aIs qi3.2.1 W2,⟨mk3,qi3.1,qi3.2.2,kp3⟩,bn qi3.2.1,xAe X G ar3⟩ ⟨aJl qi4.2.1 W2,⟨mk4,qi4.1,qi4.2.2,kp4⟩,bn qi4.2.1,xAe X G ar4⟩ ⟨aFg qi5.2.1 W2,⟨mk5,qi5.1,qi5.2.2,kp5⟩,bn qi5.2.1,xAe X G ar5⟩
  have KI:KiC l.prog w K mg base (pk3 d1 d5 d4) W f24 fd24:=⟨W_,aMu F24 T W_,F24.2,(bn F24),(xAe X G a24)⟩;have GAI:=λn=>aJh (P:=l.prog) (w:=w) (mg:=mg) (base:=base) (Cs:=pkN R0 R1 R2 R3 R4 R5 R6) (cT:=d4) qi6.2.1 T naL ⟨_,xAe X G cst7⟩ ⟨_,xAe X G cst8⟩ (xAe X G e4) xk4.exc Me GD n;have kAl:Mk K R6 fi6:=⟨mk6,qi6.1,qi6.2.2,kp6⟩;have A1:CkC l.prog w K mg base (CXE l.prog w) 7 "All" R6 fi6 fdi6 ["self","rules"] (zR (pkN R0 R1 R2 R3 R4 R5 R6) d4):=⟨aP.ex GAI 4,kAl,bn qi6.2.1,xAe X G ar6⟩;have GL:=λn=>aMy (P:=l.prog) (w:=w) (mg:=mg) (base:=base) (Cs:=pkN R0 R1 R2 R3 R4 R5 R6) F26 KI (λn=>⟨GAI n,kAl,bn qi6.2.1,xAe X G ar6⟩) n;have AL:CaC l.prog w K mg base 9 "_law_all" f26 fd26 ["_law_rules"] (aPl (pkN R0 R1 R2 R3 R4 R5 R6)):=⟨aP.ex GL 4,F26.2,bn F26,(xAe X G a26)⟩;have GAs:=λn=>aJq (P:=l.prog) (w:=w) (mg:=mg) (base:=base) (ds:=pk3 d1 d5 d4) (Cs:=pkN R0 R1 R2 R3 R4 R5 R6) (C:=C) (CM:=CM) (Pr:=Pr) F27 KI Mm GM GKe F20.2 (bn F20) (xAe X G a20) n;have AS:AsC l.prog w K mg base C Pr (pkN R0 R1 R2 R3 R4 R5 R6) f27 fd27:=⟨aP.ex GAs 4,F27.2,(xAe X G a27),bn F27⟩;have cc:∀ {n:Nat}{x:Str}{st:Stmt}{f:Addr}{fd:FuncData}{ps:List Str}{sp:Sp},aP l.prog w K mg base CX0 n f fd ps sp->Fun K x x st f fd->aS K fd ps []->mg x=some (.ref f)->CaC l.prog w K mg base n x f fd ps sp:=λG F b m=>⟨G,F.2,b,m⟩
  exact aQw F34 T (cc GC F2 (bn F2) (xAe X G a2)) (cc (aMs F23 T (aAt F8 T F1 (bn F1) (xAe X G a1) F7 (bn F7) (xAe X G a7)) F8.2 (bn F8) (xAe X G a8)) F23 (bn F23) (xAe X G a23)) (cc (aJo F22 T) F22 (bn F22) (xAe X G a22)) DE
   GRO F21.2 (bn F21) (xAe X G a21) (cc (aAn F29) F29 (bn F29) (xAe X G a29))
   (cc (aMr F31 T (aJc F25 KI GRO F21.2 (bn F21) (xAe X G a21)) F25.2 (bn F25) (xAe X G a25)) F31 (bn F31) (xAe X G a31)) (cc (aSv F32 T AS DE) F32 (bn F32) (xAe X G a32))
   (cc (aMx F33 T AS A1 AL (cc (aJp F28 T A1) F28 (bn F28) (xAe X G a28)) (cc (aJm F30 MO) F30 (bn F30) (xAe X G a30))) F33 (bn F33) (xAe X G a33)) AS
 ·obtain⟨_,_,_,_,_,_,_,_,_,rfl,_,_⟩:=F34.ex;exact .of_eq rfl
theorem walk {l:OpenLaw}{q:Program}{loose:List Str}{XP:(Str->Option Value)->Heap->Prop}{YP:World->Heap->Prop}{d:DefRec}{K:Params->xAb}{cR:Addr}(Pr:Addr)(hn:l.most=some 63)(hdf:d.params.defaults=[])
  (hY:∀ (w:World) (h:Heap),YP w h->(K w.params).In h/\∀ p∈[Pr],h.get? p=some (tabObj #[]))
  (F:∀ (w:World) (mg:xSO) (fa:Addr) (h:Heap),(K w.params).In h->h.Ns mainGlobals mg->mg d.name=some (.ref fa) ->
   ∃ fd:FuncData,(∀ (s:Shared) (u:Value),BindsTo s fd ⟨[u],[]⟩ [("_law_script",u)])/\∀ base:Heap,(K w.params).In base->base.Ns mainGlobals mg->oP mg base->aP l.prog w (K w.params) mg base CX0 19 fa fd ["_law_script"] (aCm (K w.params) Pr))
  (hK:∀ (w:World),∀ p∈[(cR,Pr)],codeHdIn (K w.params) p.1 p.2=true/\(K w.params).lookup p.2=none) :
  WalkO q loose XP YP l.row.toRowW d [] (λf vs=>PySem.call f vs):=
 L2.walk_ofT (n:=63) (k:=19) (x:="_law_script") (sp:=λw=>aCm (K w.params) Pr) [(cR,Pr)] hn (by decide) hdf ⟨rfl,by decide,by decide⟩
  (λw h Y=>⟨(hY w h Y).1,λp hp=>(hY w h Y).2 p.2 (by rw[xAg.mp hp]; simp)⟩) hK F
  (λw H a ns hl hT hS=>⟨a,ns,rfl,hS,hl,hT (cR,Pr) (by simp),λ_=>rfl⟩)
end K34
namespace Hd
open PySem PySem.W
abbrev aFx:=PySem.W.Fast.tw14364793385576792824
abbrev aPg:=PySem.W.Fast.tw10110043849684766642
abbrev aTh:=PySem.W.Fast.tw14374325043358763698
abbrev fGo:=PySem.W.Fast.tw15667345088766844465
abbrev aTi:=PySem.W.Fast.tw14082659384304107361
abbrev aTj:=PySem.W.Fast.tw11892475500146522536
abbrev fSeen:=PySem.W.Fast.tw4187177175401517315
theorem aNr:PySem.treeTable=aFx:=PySem.W.Fast.te14364793385576792824
theorem aTk:@PySem.W.segRunT=aPg:=PySem.W.Fast.te10110043849684766642
theorem aWs:@PySem.W.segRun=aTh:=PySem.W.Fast.te14374325043358763698
theorem eGo:@PySem.W.topGo=fGo:=PySem.W.Fast.te15667345088766844465
theorem aWt:@PySem.W.topRun=aTi:=PySem.W.Fast.te14082659384304107361
theorem aWu:@PySem.denote=aTj:=PySem.W.Fast.te11892475500146522536
theorem aTl:@PySem.W.openSeen=fSeen:=PySem.W.Fast.te4187177175401517315
abbrev an:Option Value:=some (.ref 6)
abbrev p0:Pos:=⟨0,0,0,0⟩
abbrev d0:Drawn:=⟨0,0,0,0⟩
def lf:Life:=⟨[],[],[],0,[],[],false,#[],[],0,false,false,false,0,[2000,10,10],false,0,true,[],[],0,false⟩
def St (T:Params->BT)(n k:Nat)(w:World)(os:OsState):SharedT:=⟨T w.params,n,lf,#[],d0,k,os⟩
def Sh (H:Params->Heap)(k:Nat)(w:World)(os:OsState):Shared:=⟨H w.params,#[],d0,k,os⟩
abbrev cd (p:Program)(env:Env):Code:=.body (behindTheImports p) env
abbrev B:List Frame:=[topFrame p0]
def Pre (p:Program)(env:Env)(H:Params->Heap)(k s:Nat)(a:Pos):Prop:=
 ∀ w:World,(λos=>fGo aFx p w 11 an s ⟨boot_heap w.params,Array.mk [],boot_drawn,boot_toks,os⟩ (topStub p))=λos=>some (Sh H k w os,⟨aTj aFx (cd p env),cd p env,a,B⟩)
def Blk (p:Program)(env:Env)(H:Params->Heap)(k:Nat)(T:Params->BT)(n k' s:Nat)(a b:Pos):Prop:=
 ∀ w:World,(λos=>aTh aFx p w 11 an 1 s (Sh H k w os) (blockOf (behindTheImports p) env (cd p env) a B))=λos=>some (.next,(St T n k' w os).abs,cd p env,b)
def Pc (p:Program)(env:Env)(T:Params->BT)(n k:Nat)(T':Params->BT)(n' k' s:Nat)(l:List Stmt)(a b:Pos):Prop:=
 ∀ w:World,(λos=>aPg aFx p w 11 an 1 s (St T n k w os) (piecesOf l env (cd p env) a B))=λos=>some (.next,St T' n' k' w os,cd p env,b)
def Fi (p:Program)(env:Env)(T:Params->BT)(n k:Nat)(H:Params->Heap)(k' s:Nat)(a:Pos):Prop:=
 ∀ w:World,(λos=>aTi aFx p w 11 an s (St T n k w os).abs ⟨doneF .next,cd p env,a,B⟩)=λos=>some (Sh H k' w os)
def Rn (p:Program)(env:Env)(T:Params->BT)(n k:Nat)(H:Params->Heap)(k':Nat)(l:List Stmt)(a:Pos)(N:Nat):Prop:=
 ∀ (w:World) (os:OsState),topRun treeTable p w 11 an N (St T n k w os).abs (restOf l env (cd p env) a B)=some (Sh H k' w os)
section
variable {p:Program}{env:Env}{T T':Params->BT}{H H':Params->Heap}{n k n' k' kf s N:Nat}{l r:List Stmt}{a b:Pos}
theorem Fi.run (h:Fi p env T n k H k' s a):Rn p env T n k H k' [] a s:=λw os=>by
 refine piece_nil ?_;rw[aWt,aNr];exact congrFun (h w) os
theorem Pc.run (h:Pc p env T n k T' n' k' s l a b)(q:Rn p env T' n' k' H kf r b N):Rn p env T n k H kf (l++r) a (s+N):=λw os=>by
 refine piece_app (segRun_of ?_) (q w os);rw[aTk,aNr];exact congrFun (h w) os
theorem top_run {s1 s2:Nat}(h1:Pre p env H' k s1 a)(h2:Blk p env H' k T n k' s2 a b)(hl:l=behindTheImports p)(q:Rn p env T n k' H kf l b N)(w:World)(os:OsState) :
  topRun treeTable p w 11 an (s1+(s2+N)) ⟨boot_heap w.params,Array.mk [],boot_drawn,boot_toks,os⟩ (topStub p)=some (Sh H kf w os):=by
 have e1:topGo treeTable p w 11 an s1 ⟨boot_heap w.params,Array.mk [],boot_drawn,boot_toks,os⟩ (topStub p)=some (Sh H' k w os,⟨denote treeTable (cd p env),cd p env,a,B⟩):=by
  rw[eGo,aNr,aWu];exact congrFun (h1 w) os
 have e2:segRun treeTable p w 11 an 1 s2 (Sh H' k w os) (blockOf (behindTheImports p) env (cd p env) a B)=some (.next,(St T n k' w os).abs,cd p env,b):=by
  rw[aWs,aNr];exact congrFun (h2 w) os
 subst hl;exact go_top e1 (piece_block e2 (q w os))
theorem aGf:∀ w:World,((boot_heap w.params).isNs mainGlobals&&(Array.mk []:Array GenState).size==0,(boot_heap w.params).objs.size,(boot_heap w.params).nsMap mainGlobals "__annotations__")=(true,11,an):=by
 intro w
 kernel_rfl
theorem left_of {q:Program}{loose:List Str}{Xt:Shared->Bool}{α:Type}{Yf:Shared->α}{Ya:World->α}{M:Nat}(e:opening p=plainProg p.main.scope.names)(f:∀ s,fenceModules? p s=some s)(hN:Nat.ble 600 N=true)(le:Nat.ble M N=true)
  (run:∀ (w:World) (os:OsState),topRun treeTable p w 11 an M ⟨boot_heap w.params,Array.mk [],boot_drawn,boot_toks,os⟩ (topStub p)=some (Sh H k w os))
  (l1:∀ w:World,(λos=>staticsOk (importedModules p.main.body) (boot_heap w.params) (H w.params)&&namesBound p (H w.params)&&gensDone (Sh H k w os)&&laidKept (boot_heap w.params) (H w.params))=λ_=>true)
  (l2:∀ w:World,(λos=>fSeen q loose (importedModules p.main.body) Xt true (Sh H k w os))=λ_=>openGood q loose)(l3:∀ w:World,(λos=>Yf (Sh H k w os))=λ_=>Ya w):LeftO p q loose Xt Yf Ya N true:=by
 refine LeftO.of_pieces (boot_open e hN f) aGf run le (λw=>?_);have h1:=l1 w;have h2:=l2 w;rw[<- aTl] at h2;funext os;exact Prod.ext (congrFun h1 os) (Prod.ext (congrFun h2 os) (congrFun (l3 w) os))
end
end Hd
namespace K34H
open PySem PySem.W
open L2 (aB aG aF aA)
open PySem.W.BT renaming node → bn, nil → bz
abbrev r:=Value.ref
abbrev zaa:Obj:=⟨.type "builtin_function_or_method",none,.fields #[.builtin "type.__prepare__",.type "type"],#[]⟩
abbrev zab:Value:=(.str "roomward.rules" 747)
abbrev zac:Array (Option Value):=#[(some (.ref 22)),none,(some (.str "WardError" 196)),(some (.str "WardError" 204)),(some (.builtin "ValueError.__new__")),(some (.bool true))]
abbrev zad:Value:=(.str "law_roomward_k34_rules_refused" 1101)
abbrev zae:Option Value:=(some (.builtin "object.__new__"))
abbrev zaf:Value:=(.str "roomward.errors" 194)
abbrev zag:List Value:=[.ref 31,.type "ValueError",.type "Exception",.type "BaseException",.type "object"]
abbrev zah:Value:=(.str "roomward.machines" 441)
abbrev zai:Value:=(.str "roomward.weaving" 622)
abbrev zaj:Option Value:=(some (.bool true))
abbrev zak:Value:=(.str "roomward.deeds" 310)
abbrev zal:Array (Option Value):=#[(some (.ref 535)),none,(some (.str "OfTwo" 876)),(some (.str "OfTwo" 884)),zae,zaj]
abbrev zam:Option Value:=(some (.builtin "ValueError.__new__"))
abbrev zan:Option Value:=(some (.str "Rule" 762))
abbrev zao:Option Value:=(some (.str "Rule" 770))
abbrev pp:Program:=PySem.Challenge.pw_roomward_k34_rules_refused
def tp (i:Nat):Stmt:=pp.main.body.getD i (.Pass ⟨0,0,0,0⟩)
abbrev kh:=@PySem.PyData.keyHash
abbrev en (P:Params)(k:Str)(n:Nat)(v:Value):DictEntry:=⟨kh P k,.str k n,v⟩
noncomputable section
abbrev co (l:List Value):Obj:=⟨.type "code",none,.fields l.toArray,#[]⟩
abbrev nf (l:List Value):Obj:=⟨.none,none,.fields l.toArray,#[]⟩
abbrev tu (l:List Value):Obj:=⟨.type "tuple",none,.seq l.toArray 0,#[]⟩
abbrev fu (f:FuncData):Obj:=⟨.type "function",none,.func f,#[]⟩
abbrev nu (f:FuncData):Obj:=⟨.none,none,.func f,#[]⟩
abbrev i0 (n:Int):Value:=.int n 0
abbrev cp (n:Nat):Value:=.str "/claim/cut.py" n
abbrev fv (n q:Str)(s:Stmt)(a:Nat)(m c:Value):Obj:=fu ⟨n,q,aG s,.stmts (aF s),aA s,a,[],.none,.none,.none,m,none,c,.none,0⟩
abbrev nv (n q:Str)(s:Stmt)(a:Nat)(m c:Value):Obj:=nu ⟨n,q,aG s,.stmts (aF s),aA s,a,[],.none,.none,.none,m,none,c,.none,0⟩
abbrev fw (n:Str):=fv n n
abbrev nw (n:Str):=nv n n
abbrev cv (a:Str)(x:Nat)(b:Str)(y z:Nat)(c d e f g:Int)(p:Nat)(q:Int)(r:Nat)(s:Int)(u:Nat):Obj:=co [.str a x,.str b y,cp z,i0 c,i0 d,i0 e,i0 f,i0 g,.ref p,.bool false,i0 q,.ref r,.none,.none,.none,.none,i0 s,i0 c,cp u]
abbrev fm (a b c:Nat)(s:Str)(n d:Nat):Obj:=⟨.type "frame",none,.plain,#[some (.ref a),some (.ref b),some (.ref c),none,some (.str s n),none,some (.ref d)]⟩
def o0:=tu []
def o1:=nf []
def o2:=cv "<module>" 182 "<module>" 183 184 1 0 0 0 0 11 181 12 185 186
def o3:=fm 13 3 3 "__main__" 164 0
def Ha (P:Params):Heap:=⟨Array.mk [boot_o_0 P,boot_o_1 P,boot_o_2 P,boot_o_3 P,boot_o_4 P,boot_o_5 P,boot_o_6 P,boot_o_7 P,boot_o_8 P,boot_o_9 P,boot_o_10 P,o0,o1,o2,o3],Hd.lf⟩
def env:Env:={ scope:=pp.main.scope,locals:=mainNs,globals:=mainNs,cells:=[],code:=.ref 13,frame:=some 14 }
theorem pre:Hd.Pre pp env Ha 187 12 ⟨0,0,0,0⟩:=by
 intro w
 kernel_rfl
def ns (t:BT)(l:List (Nat×Obj)):BT:=l.foldl (λt x=>t.ins x.1 x.2) t
abbrev be (x:Obj):BT:=bn x bz bz
def T0 (P:Params):BT:=(bn (boot_o_0 P) (bn (boot_o_1 P) (bn (boot_o_3 P) (be (boot_o_7 P)) (be o0)) (bn (boot_o_5 P) (be (boot_o_9 P)) (be o2))) (bn (boot_o_2 P) (bn (boot_o_4 P) (be (boot_o_8 P)) (be o1)) (bn (boot_o_6 P) (be (boot_o_10 P)) (be o3))))
theorem blk:Hd.Blk pp env Ha 187 T0 15 187 1 ⟨0,0,0,0⟩ ⟨0,0,0,0⟩:=by
 intro w
 kernel_rfl
def g0 (P:Params):List DictEntry:=[en P "__doc__" 166 .none,en P "__package__" 167 .none,en P "__loader__" 168 (.builtin "__main__.__loader__#opaque"),en P "__spec__" 169 .none,en P "__annotations__" 170 (.ref 6),en P "__builtins__" 171 (.ref 4),en P "__file__" 173 (.str "/claim/cut.py" 172),en P "__cached__" 174 .none,en P "_wall" 193 (.ref 21),en P "WardError" 213 (.ref 31)]
def o4 (P:Params):Obj:=⟨.type "dict",none,.dict ⟨en P "__name__" 165 zaf::g0 P⟩ 11,#[]⟩
def o5:=nf [i0 1,i0 0,r 20,i0 5,i0 0,r 27]
def o6:=tu []
def o7:=nf []
def o8:=tu [.str "k" 190]
def o9:=tu []
def o10:=nw "_wall" (tp 0) 0 .none .none
def o11:=co [.str "_wall" 187,.str "_wall" 188,cp 189,i0 1,i0 1,i0 0,i0 0,i0 3,r 15,.bool true,i0 181,r 16,.none,r 17,r 18,r 19,i0 191,i0 1,cp 192]
def o12:=fw "_wall" (tp 0) 3 (.str "__main__" 164) (r 20)
def o13:=tu [.type "ValueError"]
def o14:Obj:=zaa
def o15 (P:Params):Obj:=⟨.type "dict",none,.dict #[en P "__module__" 203 zaf,en P "__qualname__" 205 (.str "WardError" 204),en P "__firstlineno__" 207 (.int 5 206),en P "__static_attributes__" 208 (r 29)] 4,#[]⟩
def o16:=tu []
def o17:=nf []
def o18:=cv "WardError" 198 "WardError" 199 200 5 0 0 0 0 25 181 26 201 202
def o19:=fm 27 3 24 "roomward.errors" 194 0
def o20:=tu []
def o21 (P:Params):Obj:=⟨.type "dict",none,.dict #[en P "__module__" 203 zaf,en P "__firstlineno__" 207 (.int 5 206),en P "__static_attributes__" 208 (r 29),en P "__weakref__" 210 (r 32),en P "__doc__" 211 .none] 3,#[]⟩
def o22:Obj:=⟨.type "type",none,.cls ⟨"WardError",[.type "ValueError"],zag,30,"WardError",true,[],[],false,none,false⟩,zac⟩
def o23:Obj:=⟨.type "getset_descriptor",none,.fields #[.str "__weakref__" 209,r 31,.builtin "ExceptionGroup.__weakref__",.none],#[]⟩
def o24:Obj:=⟨.type "super",none,.fields #[r 31,r 31,r 31],#[]⟩
def o25:Obj:=⟨.type "builtin_function_or_method",none,.fields #[.builtin "object.__init_subclass__",r 31],#[]⟩
def T1 (P:Params):BT:=ns (T0 P) [(3,o4 P),(12,o5),(15,o6),(16,o7),(17,o8),(18,o9),(19,o10),(20,o11),(21,o12),(22,o13),(23,o14),(24,o15 P),(25,o16),(26,o17),(27,o18),(28,o19),(29,o20),(30,o21 P),(31,o22),(32,o23),(33,o24),(34,o25)]
theorem pc1:Hd.Pc pp env T0 15 187 T1 35 214 225 [tp 0,tp 1,tp 2] ⟨0,0,0,0⟩ ⟨5,0,6,8⟩:=by
 intro w
 kernel_rfl
def g1 (P:Params):List DictEntry:=g0 P++[en P "NoName" 229 (.ref 44)]
def o26 (P:Params):Obj:=⟨.type "dict",none,.dict ⟨en P "__name__" 165 zaf::g1 P⟩ 12,#[]⟩
def o27:=nf [i0 1,i0 0,r 20,i0 5,i0 0,r 27,i0 7,i0 0,r 40]
def o28:Obj:=⟨.type "type",none,.cls ⟨"WardError",[.type "ValueError"],zag,30,"WardError",true,[],[r 44],false,none,false⟩,zac⟩
def o29:=tu [r 31]
def o30:Obj:=zaa
def o31 (P:Params):Obj:=⟨.type "dict",none,.dict #[en P "__module__" 221 zaf,en P "__qualname__" 223 (.str "NoName" 222),en P "__firstlineno__" 225 (.int 7 224),en P "__static_attributes__" 226 (r 42)] 4,#[]⟩
def o32:=tu []
def o33:=nf []
def o34:=cv "NoName" 216 "NoName" 217 218 7 0 0 0 0 38 181 39 219 220
def o35:=fm 40 3 37 "roomward.errors" 194 0
def o36:=tu []
def o37 (P:Params):Obj:=⟨.type "dict",none,.dict #[en P "__module__" 221 zaf,en P "__firstlineno__" 225 (.int 7 224),en P "__static_attributes__" 226 (r 42),en P "__doc__" 227 .none] 2,#[]⟩
def o38:Obj:=⟨.type "type",none,.cls ⟨"NoName",[r 31],[r 44,r 31,.type "ValueError",.type "Exception",.type "BaseException",.type "object"],43,"NoName",true,[],[],false,none,false⟩,#[(some (r 35)),none,(some (.str "NoName" 214)),(some (.str "NoName" 222)),zam,zaj]⟩
def o39:Obj:=⟨.type "super",none,.fields #[r 44,r 44,r 44],#[]⟩
def o40:Obj:=⟨.type "builtin_function_or_method",none,.fields #[.builtin "object.__init_subclass__",r 44],#[]⟩
def T2 (P:Params):BT:=ns (T1 P) [(3,o26 P),(12,o27),(31,o28),(35,o29),(36,o30),(37,o31 P),(38,o32),(39,o33),(40,o34),(41,o35),(42,o36),(43,o37 P),(44,o38),(45,o39),(46,o40)]
theorem pc2:Hd.Pc pp env T1 35 214 T2 47 230 214 [tp 3] ⟨5,0,6,8⟩ ⟨7,0,8,8⟩:=by
 intro w
 kernel_rfl
def g2 (P:Params):List DictEntry:=g1 P++[en P "NoDeed" 245 (.ref 56)]
def o41 (P:Params):Obj:=⟨.type "dict",none,.dict ⟨en P "__name__" 165 zaf::g2 P⟩ 13,#[]⟩
def o42:=nf [i0 1,i0 0,r 20,i0 5,i0 0,r 27,i0 7,i0 0,r 40,i0 9,i0 0,r 52]
def o43:Obj:=⟨.type "type",none,.cls ⟨"WardError",[.type "ValueError"],zag,30,"WardError",true,[],[r 44,r 56],false,none,false⟩,zac⟩
def o44:=tu [r 31]
def o45:Obj:=zaa
def o46 (P:Params):Obj:=⟨.type "dict",none,.dict #[en P "__module__" 237 zaf,en P "__qualname__" 239 (.str "NoDeed" 238),en P "__firstlineno__" 241 (.int 9 240),en P "__static_attributes__" 242 (r 54)] 4,#[]⟩
def o47:=tu []
def o48:=nf []
def o49:=cv "NoDeed" 232 "NoDeed" 233 234 9 0 0 0 0 50 181 51 235 236
def o50:=fm 52 3 49 "roomward.errors" 194 0
def o51:=tu []
def o52 (P:Params):Obj:=⟨.type "dict",none,.dict #[en P "__module__" 237 zaf,en P "__firstlineno__" 241 (.int 9 240),en P "__static_attributes__" 242 (r 54),en P "__doc__" 243 .none] 2,#[]⟩
def o53:Obj:=⟨.type "type",none,.cls ⟨"NoDeed",[r 31],[r 56,r 31,.type "ValueError",.type "Exception",.type "BaseException",.type "object"],55,"NoDeed",true,[],[],false,none,false⟩,#[(some (r 47)),none,(some (.str "NoDeed" 230)),(some (.str "NoDeed" 238)),zam,zaj]⟩
def o54:Obj:=⟨.type "super",none,.fields #[r 56,r 56,r 56],#[]⟩
def o55:Obj:=⟨.type "builtin_function_or_method",none,.fields #[.builtin "object.__init_subclass__",r 56],#[]⟩
def T3 (P:Params):BT:=ns (T2 P) [(3,o41 P),(12,o42),(31,o43),(47,o44),(48,o45),(49,o46 P),(50,o47),(51,o48),(52,o49),(53,o50),(54,o51),(55,o52 P),(56,o53),(57,o54),(58,o55)]
theorem pc3:Hd.Pc pp env T2 47 230 T3 59 246 214 [tp 4] ⟨7,0,8,8⟩ ⟨9,0,10,8⟩:=by
 intro w
 kernel_rfl
def g3 (P:Params):List DictEntry:=g2 P++[en P "NoRoom" 261 (.ref 68)]
def o56 (P:Params):Obj:=⟨.type "dict",none,.dict ⟨en P "__name__" 165 zaf::g3 P⟩ 14,#[]⟩
def o57:=nf [i0 1,i0 0,r 20,i0 5,i0 0,r 27,i0 7,i0 0,r 40,i0 9,i0 0,r 52,i0 11,i0 0,r 64]
def o58:Obj:=⟨.type "type",none,.cls ⟨"WardError",[.type "ValueError"],zag,30,"WardError",true,[],[r 44,r 56,r 68],false,none,false⟩,zac⟩
def o59:=tu [r 31]
def o60:Obj:=zaa
def o61 (P:Params):Obj:=⟨.type "dict",none,.dict #[en P "__module__" 253 zaf,en P "__qualname__" 255 (.str "NoRoom" 254),en P "__firstlineno__" 257 (.int 11 256),en P "__static_attributes__" 258 (r 66)] 4,#[]⟩
def o62:=tu []
def o63:=nf []
def o64:=cv "NoRoom" 248 "NoRoom" 249 250 11 0 0 0 0 62 181 63 251 252
def o65:=fm 64 3 61 "roomward.errors" 194 0
def o66:=tu []
def o67 (P:Params):Obj:=⟨.type "dict",none,.dict #[en P "__module__" 253 zaf,en P "__firstlineno__" 257 (.int 11 256),en P "__static_attributes__" 258 (r 66),en P "__doc__" 259 .none] 2,#[]⟩
def o68:Obj:=⟨.type "type",none,.cls ⟨"NoRoom",[r 31],[r 68,r 31,.type "ValueError",.type "Exception",.type "BaseException",.type "object"],67,"NoRoom",true,[],[],false,none,false⟩,#[(some (r 59)),none,(some (.str "NoRoom" 246)),(some (.str "NoRoom" 254)),zam,zaj]⟩
def o69:Obj:=⟨.type "super",none,.fields #[r 68,r 68,r 68],#[]⟩
def o70:Obj:=⟨.type "builtin_function_or_method",none,.fields #[.builtin "object.__init_subclass__",r 68],#[]⟩
def T4 (P:Params):BT:=ns (T3 P) [(3,o56 P),(12,o57),(31,o58),(59,o59),(60,o60),(61,o61 P),(62,o62),(63,o63),(64,o64),(65,o65),(66,o66),(67,o67 P),(68,o68),(69,o69),(70,o70)]
theorem pc4:Hd.Pc pp env T3 59 246 T4 71 262 214 [tp 5] ⟨9,0,10,8⟩ ⟨11,0,12,8⟩:=by
 intro w
 kernel_rfl
def g4 (P:Params):List DictEntry:=g3 P++[en P "TwiceTold" 277 (.ref 80)]
def o71 (P:Params):Obj:=⟨.type "dict",none,.dict ⟨en P "__name__" 165 zaf::g4 P⟩ 15,#[]⟩
def o72:=nf [i0 1,i0 0,r 20,i0 5,i0 0,r 27,i0 7,i0 0,r 40,i0 9,i0 0,r 52,i0 11,i0 0,r 64,i0 13,i0 0,r 76]
def o73:Obj:=⟨.type "type",none,.cls ⟨"WardError",[.type "ValueError"],zag,30,"WardError",true,[],[r 44,r 56,r 68,r 80],false,none,false⟩,zac⟩
def o74:=tu [r 31]
def o75:Obj:=zaa
def o76 (P:Params):Obj:=⟨.type "dict",none,.dict #[en P "__module__" 269 zaf,en P "__qualname__" 271 (.str "TwiceTold" 270),en P "__firstlineno__" 273 (.int 13 272),en P "__static_attributes__" 274 (r 78)] 4,#[]⟩
def o77:=tu []
def o78:=nf []
def o79:=cv "TwiceTold" 264 "TwiceTold" 265 266 13 0 0 0 0 74 181 75 267 268
def o80:=fm 76 3 73 "roomward.errors" 194 0
def o81:=tu []
def o82 (P:Params):Obj:=⟨.type "dict",none,.dict #[en P "__module__" 269 zaf,en P "__firstlineno__" 273 (.int 13 272),en P "__static_attributes__" 274 (r 78),en P "__doc__" 275 .none] 2,#[]⟩
def o83:Obj:=⟨.type "type",none,.cls ⟨"TwiceTold",[r 31],[r 80,r 31,.type "ValueError",.type "Exception",.type "BaseException",.type "object"],79,"TwiceTold",true,[],[],false,none,false⟩,#[(some (r 71)),none,(some (.str "TwiceTold" 262)),(some (.str "TwiceTold" 270)),zam,zaj]⟩
def o84:Obj:=⟨.type "super",none,.fields #[r 80,r 80,r 80],#[]⟩
def o85:Obj:=⟨.type "builtin_function_or_method",none,.fields #[.builtin "object.__init_subclass__",r 80],#[]⟩
def T5 (P:Params):BT:=ns (T4 P) [(3,o71 P),(12,o72),(31,o73),(71,o74),(72,o75),(73,o76 P),(74,o77),(75,o78),(76,o79),(77,o80),(78,o81),(79,o82 P),(80,o83),(81,o84),(82,o85)]
theorem pc5:Hd.Pc pp env T4 71 262 T5 83 278 214 [tp 6] ⟨11,0,12,8⟩ ⟨13,0,14,8⟩:=by
 intro w
 kernel_rfl
def g5 (P:Params):List DictEntry:=g4 P++[en P "TooMany" 293 (.ref 92)]
def o86 (P:Params):Obj:=⟨.type "dict",none,.dict ⟨en P "__name__" 165 zaf::g5 P⟩ 16,#[]⟩
def o87:=nf [i0 1,i0 0,r 20,i0 5,i0 0,r 27,i0 7,i0 0,r 40,i0 9,i0 0,r 52,i0 11,i0 0,r 64,i0 13,i0 0,r 76,i0 15,i0 0,r 88]
def o88:Obj:=⟨.type "type",none,.cls ⟨"WardError",[.type "ValueError"],zag,30,"WardError",true,[],[r 44,r 56,r 68,r 80,r 92],false,none,false⟩,zac⟩
def o89:=tu [r 31]
def o90:Obj:=zaa
def o91 (P:Params):Obj:=⟨.type "dict",none,.dict #[en P "__module__" 285 zaf,en P "__qualname__" 287 (.str "TooMany" 286),en P "__firstlineno__" 289 (.int 15 288),en P "__static_attributes__" 290 (r 90)] 4,#[]⟩
def o92:=tu []
def o93:=nf []
def o94:=cv "TooMany" 280 "TooMany" 281 282 15 0 0 0 0 86 181 87 283 284
def o95:=fm 88 3 85 "roomward.errors" 194 0
def o96:=tu []
def o97 (P:Params):Obj:=⟨.type "dict",none,.dict #[en P "__module__" 285 zaf,en P "__firstlineno__" 289 (.int 15 288),en P "__static_attributes__" 290 (r 90),en P "__doc__" 291 .none] 2,#[]⟩
def o98:Obj:=⟨.type "type",none,.cls ⟨"TooMany",[r 31],[r 92,r 31,.type "ValueError",.type "Exception",.type "BaseException",.type "object"],91,"TooMany",true,[],[],false,none,false⟩,#[(some (r 83)),none,(some (.str "TooMany" 278)),(some (.str "TooMany" 286)),zam,zaj]⟩
def o99:Obj:=⟨.type "super",none,.fields #[r 92,r 92,r 92],#[]⟩
def o100:Obj:=⟨.type "builtin_function_or_method",none,.fields #[.builtin "object.__init_subclass__",r 92],#[]⟩
def T6 (P:Params):BT:=ns (T5 P) [(3,o86 P),(12,o87),(31,o88),(83,o89),(84,o90),(85,o91 P),(86,o92),(87,o93),(88,o94),(89,o95),(90,o96),(91,o97 P),(92,o98),(93,o99),(94,o100)]
theorem pc6:Hd.Pc pp env T5 83 278 T6 95 294 214 [tp 7] ⟨13,0,14,8⟩ ⟨15,0,16,8⟩:=by
 intro w
 kernel_rfl
def g6 (P:Params):List DictEntry:=g5 P++[en P "NoRule" 309 (.ref 104),en P "LETTERS" 313 (.str "abcdefghijklmnopqrstuvwxyz" 312),en P "FIGURES" 315 (.str "0123456789" 314),en P "MOST_SIGNS" 317 (.int 8 316),en P "MOST_DEEDS" 319 (.int 12 318),en P "is_name" 325 (.ref 111),en P "refuse_names" 334 (.ref 118),en P "weights_of" 344 (.ref 125),en P "marks_of" 353 (.ref 132)]
def o101 (P:Params):Obj:=⟨.type "dict",none,.dict ⟨en P "__name__" 165 zak::g6 P⟩ 25,#[]⟩
def o102:=nf [i0 1,i0 0,r 20,i0 5,i0 0,r 27,i0 7,i0 0,r 40,i0 9,i0 0,r 52,i0 11,i0 0,r 64,i0 13,i0 0,r 76,i0 15,i0 0,r 88,i0 17,i0 0,r 100,i0 24,i0 0,r 110,i0 29,i0 0,r 117,i0 39,i0 0,r 124,i0 46,i0 0,r 131]
def o103:Obj:=⟨.type "type",none,.cls ⟨"WardError",[.type "ValueError"],zag,30,"WardError",true,[],[r 44,r 56,r 68,r 80,r 92,r 104],false,none,false⟩,zac⟩
def o104:=tu [r 31]
def o105:Obj:=zaa
def o106 (P:Params):Obj:=⟨.type "dict",none,.dict #[en P "__module__" 301 zaf,en P "__qualname__" 303 (.str "NoRule" 302),en P "__firstlineno__" 305 (.int 17 304),en P "__static_attributes__" 306 (r 102)] 4,#[]⟩
def o107:=tu []
def o108:=nf []
def o109:=cv "NoRule" 296 "NoRule" 297 298 17 0 0 0 0 98 181 99 299 300
def o110:=fm 100 3 97 "roomward.errors" 194 0
def o111:=tu []
def o112 (P:Params):Obj:=⟨.type "dict",none,.dict #[en P "__module__" 301 zaf,en P "__firstlineno__" 305 (.int 17 304),en P "__static_attributes__" 306 (r 102),en P "__doc__" 307 .none] 2,#[]⟩
def o113:Obj:=⟨.type "type",none,.cls ⟨"NoRule",[r 31],[r 104,r 31,.type "ValueError",.type "Exception",.type "BaseException",.type "object"],103,"NoRule",true,[],[],false,none,false⟩,#[(some (r 95)),none,(some (.str "NoRule" 294)),(some (.str "NoRule" 302)),zam,zaj]⟩
def o114:Obj:=⟨.type "super",none,.fields #[r 104,r 104,r 104],#[]⟩
def o115:Obj:=⟨.type "builtin_function_or_method",none,.fields #[.builtin "object.__init_subclass__",r 104],#[]⟩
def o116:=tu []
def o117:=nf []
def o118:=nw "is_name" (tp 14) 0 .none .none
def o119:=co [.str "is_name" 320,.str "is_name" 321,cp 322,i0 24,i0 1,i0 0,i0 0,i0 3,r 107,.bool true,i0 181,r 108,.none,.none,.none,r 109,i0 323,i0 24,cp 324]
def o120:=fw "is_name" (tp 14) 3 zak (r 110)
def o121:=tu []
def o122:=nf []
def o123:=tu [.str "names" 329,.str "ahead" 330,.str "name" 331]
def o124:=tu []
def o125:=nw "refuse_names" (tp 15) 0 .none .none
def o126:=co [.str "refuse_names" 326,.str "refuse_names" 327,cp 328,i0 29,i0 1,i0 0,i0 0,i0 3,r 112,.bool true,i0 181,r 113,.none,r 114,r 115,r 116,i0 332,i0 29,cp 333]
def o127:=fw "refuse_names" (tp 15) 3 zak (r 117)
def o128:=tu []
def o129:=nf []
def o130:=tu [.str "names" 338,.str "weights" 339,.str "weight" 340,.str "name" 341]
def o131:=tu []
def o132:=nw "weights_of" (tp 16) 0 .none .none
def o133:=co [.str "weights_of" 335,.str "weights_of" 336,cp 337,i0 39,i0 1,i0 0,i0 0,i0 3,r 119,.bool true,i0 181,r 120,.none,r 121,r 122,r 123,i0 342,i0 39,cp 343]
def o134:=fw "weights_of" (tp 16) 3 zak (r 124)
def o135:=tu []
def o136:=nf []
def o137:=tu [.str "names" 348,.str "marks" 349,.str "name" 350]
def o138:=tu []
def o139:=nw "marks_of" (tp 17) 0 .none .none
def o140:=co [.str "marks_of" 345,.str "marks_of" 346,cp 347,i0 46,i0 1,i0 0,i0 0,i0 3,r 126,.bool true,i0 181,r 127,.none,r 128,r 129,r 130,i0 351,i0 46,cp 352]
def o141:=fw "marks_of" (tp 17) 3 zak (r 131)
def T7 (P:Params):BT:=ns (T6 P) [(3,o101 P),(12,o102),(31,o103),(95,o104),(96,o105),(97,o106 P),(98,o107),(99,o108),(100,o109),(101,o110),(102,o111),(103,o112 P),(104,o113),(105,o114),(106,o115),(107,o116),(108,o117),(109,o118),(110,o119),(111,o120),(112,o121),(113,o122),(114,o123),(115,o124),(116,o125),(117,o126),(118,o127),(119,o128),(120,o129),(121,o130),(122,o131),(123,o132),(124,o133),(125,o134),(126,o135),(127,o136),(128,o137),(129,o138),(130,o139),(131,o140),(132,o141)]
theorem pc7:Hd.Pc pp env T6 95 294 T7 133 354 379 [tp 8,tp 9,tp 10,tp 11,tp 12,tp 13,tp 14,tp 15,tp 16,tp 17] ⟨15,0,16,8⟩ ⟨46,0,50,16⟩:=by
 intro w
 kernel_rfl
def g7 (P:Params):List DictEntry:=g6 P++[en P "Deeds" 440 (.ref 199)]
def o142 (P:Params):Obj:=⟨.type "dict",none,.dict ⟨en P "__name__" 165 zak::g7 P⟩ 26,#[]⟩
def o143:=nf [i0 1,i0 0,r 20,i0 5,i0 0,r 27,i0 7,i0 0,r 40,i0 9,i0 0,r 52,i0 11,i0 0,r 64,i0 13,i0 0,r 76,i0 15,i0 0,r 88,i0 17,i0 0,r 100,i0 24,i0 0,r 110,i0 29,i0 0,r 117,i0 39,i0 0,r 124,i0 46,i0 0,r 131,i0 51,i0 0,r 138]
def o144:=tu []
def o145:Obj:=zaa
def g8 (P:Params):List DictEntry:=[en P "__qualname__" 363 (.str "Deeds" 362),en P "__firstlineno__" 365 (.int 51 364),en P "__init__" 375 (.ref 147),en P "names" 382 (.ref 154),en P "free" 389 (.ref 161),en P "has" 397 (.ref 168),en P "require" 406 (.ref 175),en P "is_free" 414 (.ref 182),en P "bits" 422 (.ref 189),en P "names_of" 430 (.ref 196),en P "__static_attributes__" 433 (.ref 197)]
def o146 (P:Params):Obj:=⟨.type "dict",none,.dict ⟨en P "__module__" 361 zak::g8 P⟩ 12,#[]⟩
def o147:=tu []
def o148:=nf [i0 53,i0 4,r 146,i0 60,i0 4,r 153,i0 63,i0 4,r 160,i0 66,i0 4,r 167,i0 69,i0 4,r 174,i0 74,i0 4,r 181,i0 77,i0 4,r 188,i0 80,i0 4,r 195]
def o149:=cv "Deeds" 356 "Deeds" 357 358 51 0 0 0 0 136 181 137 359 360
def o150:=fm 138 3 135 "roomward.deeds" 310 0
def o151:=tu [.none]
def o152:=tu []
def o153:=nf []
def o154:=tu [.str "self" 369,.str "names" 370,.str "free" 371,.str "free_names" 372]
def o155:=tu []
def o156:=nv "__init__" "Deeds.__init__" (aB (tp 18) 0) 0 .none .none
def o157:=co [.str "__init__" 366,.str "Deeds.__init__" 367,cp 368,i0 53,i0 3,i0 0,i0 0,i0 3,r 141,.bool true,i0 181,r 142,.none,r 143,r 144,r 145,i0 373,i0 53,cp 374]
def o158:Obj:=fu ⟨"__init__","Deeds.__init__",aG (aB (tp 18) 0),.stmts (aF (aB (tp 18) 0)),aA (aB (tp 18) 0),3,[],r 140,.none,.none,.str "roomward.deeds" 310,none,r 146,.none,0⟩
def o159:=tu []
def o160:=nf []
def o161:=tu [.str "self" 379]
def o162:=tu []
def o163:=nv "names" "Deeds.names" (aB (tp 18) 1) 0 .none .none
def o164:=co [.str "names" 376,.str "Deeds.names" 377,cp 378,i0 60,i0 1,i0 0,i0 0,i0 3,r 148,.bool true,i0 181,r 149,.none,r 150,r 151,r 152,i0 380,i0 60,cp 381]
def o165:=fv "names" "Deeds.names" (aB (tp 18) 1) 3 zak (r 153)
def o166:=tu []
def o167:=nf []
def o168:=tu [.str "self" 386]
def o169:=tu []
def o170:=nv "free" "Deeds.free" (aB (tp 18) 2) 0 .none .none
def o171:=co [.str "free" 383,.str "Deeds.free" 384,cp 385,i0 63,i0 1,i0 0,i0 0,i0 3,r 155,.bool true,i0 181,r 156,.none,r 157,r 158,r 159,i0 387,i0 63,cp 388]
def o172:=fv "free" "Deeds.free" (aB (tp 18) 2) 3 zak (r 160)
def o173:=tu []
def o174:=nf []
def o175:=tu [.str "self" 393,.str "thing" 394]
def o176:=tu []
def o177:=nv "has" "Deeds.has" (aB (tp 18) 3) 0 .none .none
def o178:=co [.str "has" 390,.str "Deeds.has" 391,cp 392,i0 66,i0 2,i0 0,i0 0,i0 3,r 162,.bool true,i0 181,r 163,.none,r 164,r 165,r 166,i0 395,i0 66,cp 396]
def o179:=fv "has" "Deeds.has" (aB (tp 18) 3) 3 zak (r 167)
def o180:=tu []
def o181:=nf []
def o182:=tu [.str "self" 401,.str "row" 402,.str "deed" 403]
def o183:=tu []
def o184:=nv "require" "Deeds.require" (aB (tp 18) 4) 0 .none .none
def o185:=co [.str "require" 398,.str "Deeds.require" 399,cp 400,i0 69,i0 2,i0 0,i0 0,i0 3,r 169,.bool true,i0 181,r 170,.none,r 171,r 172,r 173,i0 404,i0 69,cp 405]
def o186:=fv "require" "Deeds.require" (aB (tp 18) 4) 3 zak (r 174)
def o187:=tu []
def o188:=nf []
def o189:=tu [.str "self" 410,.str "deed" 411]
def o190:=tu []
def o191:=nv "is_free" "Deeds.is_free" (aB (tp 18) 5) 0 .none .none
def o192:=co [.str "is_free" 407,.str "Deeds.is_free" 408,cp 409,i0 74,i0 2,i0 0,i0 0,i0 3,r 176,.bool true,i0 181,r 177,.none,r 178,r 179,r 180,i0 412,i0 74,cp 413]
def o193:=fv "is_free" "Deeds.is_free" (aB (tp 18) 5) 3 zak (r 181)
def o194:=tu []
def o195:=nf []
def o196:=tu [.str "self" 418,.str "names" 419]
def o197:=tu []
def o198:=nv "bits" "Deeds.bits" (aB (tp 18) 6) 0 .none .none
def o199:=co [.str "bits" 415,.str "Deeds.bits" 416,cp 417,i0 77,i0 2,i0 0,i0 0,i0 3,r 183,.bool true,i0 181,r 184,.none,r 185,r 186,r 187,i0 420,i0 77,cp 421]
def o200:=fv "bits" "Deeds.bits" (aB (tp 18) 6) 3 zak (r 188)
def o201:=tu []
def o202:=nf []
def o203:=tu [.str "self" 426,.str "bits" 427]
def o204:=tu []
def o205:=nv "names_of" "Deeds.names_of" (aB (tp 18) 7) 0 .none .none
def o206:=co [.str "names_of" 423,.str "Deeds.names_of" 424,cp 425,i0 80,i0 2,i0 0,i0 0,i0 3,r 190,.bool true,i0 181,r 191,.none,r 192,r 193,r 194,i0 428,i0 80,cp 429]
def o207:=fv "names_of" "Deeds.names_of" (aB (tp 18) 7) 3 zak (r 195)
def o208:=tu [.str "free_marks" 431,.str "weights" 432]
def g9 (P:Params):List DictEntry:=[en P "__firstlineno__" 365 (.int 51 364),en P "__init__" 375 (.ref 147),en P "names" 382 (.ref 154),en P "free" 389 (.ref 161),en P "has" 397 (.ref 168),en P "require" 406 (.ref 175),en P "is_free" 414 (.ref 182),en P "bits" 422 (.ref 189),en P "names_of" 430 (.ref 196),en P "__static_attributes__" 433 (.ref 197),en P "__dict__" 435 (.ref 200),en P "__weakref__" 437 (.ref 201),en P "__doc__" 438 .none]
def o209 (P:Params):Obj:=⟨.type "dict",none,.dict ⟨en P "__module__" 361 zak::g9 P⟩ 4,#[]⟩
def o210:Obj:=⟨.type "type",none,.cls ⟨"Deeds",[.type "object"],[r 199,.type "object"],198,"Deeds",true,[],[],false,none,false⟩,#[none,none,(some (.str "Deeds" 354)),(some (.str "Deeds" 362)),zae,zaj]⟩
def o211:Obj:=⟨.type "getset_descriptor",none,.fields #[.str "__dict__" 434,r 199,.builtin "function.__dict__",.builtin "function.__dict__#set"],#[]⟩
def o212:Obj:=⟨.type "getset_descriptor",none,.fields #[.str "__weakref__" 436,r 199,.builtin "ExceptionGroup.__weakref__",.none],#[]⟩
def o213:Obj:=⟨.type "super",none,.fields #[r 199,r 199,r 199],#[]⟩
def o214:Obj:=⟨.type "builtin_function_or_method",none,.fields #[.builtin "object.__init_subclass__",r 199],#[]⟩
def T8 (P:Params):BT:=ns (T7 P) [(3,o142 P),(12,o143),(133,o144),(134,o145),(135,o146 P),(136,o147),(137,o148),(138,o149),(139,o150),(140,o151),(141,o152),(142,o153),(143,o154),(144,o155),(145,o156),(146,o157),(147,o158),(148,o159),(149,o160),(150,o161),(151,o162),(152,o163),(153,o164),(154,o165),(155,o166),(156,o167),(157,o168),(158,o169),(159,o170),(160,o171),(161,o172),(162,o173),(163,o174),(164,o175),(165,o176),(166,o177),(167,o178),(168,o179),(169,o180),(170,o181),(171,o182),(172,o183),(173,o184),(174,o185),(175,o186),(176,o187),(177,o188),(178,o189),(179,o190),(180,o191),(181,o192),(182,o193),(183,o194),(184,o195),(185,o196),(186,o197),(187,o198),(188,o199),(189,o200),(190,o201),(191,o202),(192,o203),(193,o204),(194,o205),(195,o206),(196,o207),(197,o208),(198,o209 P),(199,o210),(200,o211),(201,o212),(202,o213),(203,o214)]
theorem pc8:Hd.Pc pp env T7 133 354 T8 204 441 450 [tp 18] ⟨46,0,50,16⟩ ⟨51,0,81,16⟩:=by
 intro w
 kernel_rfl
def g10 (P:Params):List DictEntry:=g7 P++[en P "MOST_ROOMS" 444 (.int 60 443),en P "named_rooms" 457 (.ref 210),en P "refuse_rooms" 465 (.ref 217),en P "leads_of" 477 (.ref 224)]
def o215 (P:Params):Obj:=⟨.type "dict",none,.dict ⟨en P "__name__" 165 zah::g10 P⟩ 30,#[]⟩
def o216:=nf [i0 1,i0 0,r 20,i0 5,i0 0,r 27,i0 7,i0 0,r 40,i0 9,i0 0,r 52,i0 11,i0 0,r 64,i0 13,i0 0,r 76,i0 15,i0 0,r 88,i0 17,i0 0,r 100,i0 24,i0 0,r 110,i0 29,i0 0,r 117,i0 39,i0 0,r 124,i0 46,i0 0,r 131,i0 51,i0 0,r 138,i0 84,i0 0,r 209,i0 91,i0 0,r 216,i0 95,i0 0,r 223]
def o217:=tu []
def o218:=nf []
def o219:=tu [.str "begin" 448,.str "ends" 449,.str "doors" 450,.str "rooms" 451,.str "room" 452,.str "deed" 453,.str "far" 454]
def o220:=tu []
def o221:=nw "named_rooms" (tp 21) 0 .none .none
def o222:=co [.str "named_rooms" 445,.str "named_rooms" 446,cp 447,i0 84,i0 3,i0 0,i0 0,i0 3,r 204,.bool true,i0 181,r 205,.none,r 206,r 207,r 208,i0 455,i0 84,cp 456]
def o223:=fw "named_rooms" (tp 21) 3 zah (r 209)
def o224:=tu []
def o225:=nf []
def o226:=tu [.str "rooms" 461,.str "room" 462]
def o227:=tu []
def o228:=nw "refuse_rooms" (tp 22) 0 .none .none
def o229:=co [.str "refuse_rooms" 458,.str "refuse_rooms" 459,cp 460,i0 91,i0 1,i0 0,i0 0,i0 3,r 211,.bool true,i0 181,r 212,.none,r 213,r 214,r 215,i0 463,i0 91,cp 464]
def o230:=fw "refuse_rooms" (tp 22) 3 zah (r 216)
def o231:=tu []
def o232:=nf []
def o233:=tu [.str "rooms" 469,.str "doors" 470,.str "leads" 471,.str "room" 472,.str "deed" 473,.str "far" 474]
def o234:=tu []
def o235:=nw "leads_of" (tp 23) 0 .none .none
def o236:=co [.str "leads_of" 466,.str "leads_of" 467,cp 468,i0 95,i0 2,i0 0,i0 0,i0 3,r 218,.bool true,i0 181,r 219,.none,r 220,r 221,r 222,i0 475,i0 95,cp 476]
def o237:=fw "leads_of" (tp 23) 3 zah (r 223)
def T9 (P:Params):BT:=ns (T8 P) [(3,o215 P),(12,o216),(204,o217),(205,o218),(206,o219),(207,o220),(208,o221),(209,o222),(210,o223),(211,o224),(212,o225),(213,o226),(214,o227),(215,o228),(216,o229),(217,o230),(218,o231),(219,o232),(220,o233),(221,o234),(222,o235),(223,o236),(224,o237)]
theorem pc9:Hd.Pc pp env T8 204 441 T9 225 478 118 [tp 19,tp 20,tp 21,tp 22,tp 23] ⟨51,0,81,16⟩ ⟨95,0,103,16⟩:=by
 intro w
 kernel_rfl
def g11 (P:Params):List DictEntry:=g10 P++[en P "Machine" 595 (.ref 317)]
def o238 (P:Params):Obj:=⟨.type "dict",none,.dict ⟨en P "__name__" 165 zah::g11 P⟩ 31,#[]⟩
def o239:=nf [i0 1,i0 0,r 20,i0 5,i0 0,r 27,i0 7,i0 0,r 40,i0 9,i0 0,r 52,i0 11,i0 0,r 64,i0 13,i0 0,r 76,i0 15,i0 0,r 88,i0 17,i0 0,r 100,i0 24,i0 0,r 110,i0 29,i0 0,r 117,i0 39,i0 0,r 124,i0 46,i0 0,r 131,i0 51,i0 0,r 138,i0 84,i0 0,r 209,i0 91,i0 0,r 216,i0 95,i0 0,r 223,i0 104,i0 0,r 230]
def o240:=tu []
def o241:Obj:=zaa
def g12 (P:Params):List DictEntry:=[en P "__qualname__" 487 (.str "Machine" 486),en P "__firstlineno__" 489 (.int 104 488),en P "__init__" 495 (.ref 237),en P "deeds" 502 (.ref 244),en P "begin" 509 (.ref 251),en P "rooms" 516 (.ref 258),en P "ends" 523 (.ref 265),en P "knows" 530 (.ref 272),en P "require_room" 538 (.ref 279),en P "at" 546 (.ref 286),en P "to" 555 (.ref 293),en P "is_end" 563 (.ref 300),en P "goes" 572 (.ref 307),en P "behind" 582 (.ref 314),en P "__static_attributes__" 588 (.ref 315)]
def o242 (P:Params):Obj:=⟨.type "dict",none,.dict ⟨en P "__module__" 485 zah::g12 P⟩ 16,#[]⟩
def o243:=tu []
def o244:=nf [i0 106,i0 4,r 236,i0 121,i0 4,r 243,i0 124,i0 4,r 250,i0 127,i0 4,r 257,i0 130,i0 4,r 264,i0 133,i0 4,r 271,i0 136,i0 4,r 278,i0 140,i0 4,r 285,i0 144,i0 4,r 292,i0 149,i0 4,r 299,i0 153,i0 4,r 306,i0 158,i0 4,r 313]
def o245:=cv "Machine" 480 "Machine" 481 482 104 0 0 0 0 228 181 229 483 484
def o246:=fm 230 3 227 "roomward.machines" 441 0
def o247:=tu [.none]
def o248:=tu []
def o249:=nf []
def o250:=nv "__init__" "Machine.__init__" (aB (tp 24) 0) 0 .none .none
def o251:=co [.str "__init__" 490,.str "Machine.__init__" 491,cp 492,i0 106,i0 6,i0 0,i0 0,i0 3,r 233,.bool true,i0 181,r 234,.none,.none,.none,r 235,i0 493,i0 106,cp 494]
def o252:Obj:=fu ⟨"__init__","Machine.__init__",aG (aB (tp 24) 0),.stmts (aF (aB (tp 24) 0)),aA (aB (tp 24) 0),3,[],r 232,.none,.none,.str "roomward.machines" 441,none,r 236,.none,0⟩
def o253:=tu []
def o254:=nf []
def o255:=tu [.str "self" 499]
def o256:=tu []
def o257:=nv "deeds" "Machine.deeds" (aB (tp 24) 1) 0 .none .none
def o258:=co [.str "deeds" 496,.str "Machine.deeds" 497,cp 498,i0 121,i0 1,i0 0,i0 0,i0 3,r 238,.bool true,i0 181,r 239,.none,r 240,r 241,r 242,i0 500,i0 121,cp 501]
def o259:=fv "deeds" "Machine.deeds" (aB (tp 24) 1) 3 zah (r 243)
def o260:=tu []
def o261:=nf []
def o262:=tu [.str "self" 506]
def o263:=tu []
def o264:=nv "begin" "Machine.begin" (aB (tp 24) 2) 0 .none .none
def o265:=co [.str "begin" 503,.str "Machine.begin" 504,cp 505,i0 124,i0 1,i0 0,i0 0,i0 3,r 245,.bool true,i0 181,r 246,.none,r 247,r 248,r 249,i0 507,i0 124,cp 508]
def o266:=fv "begin" "Machine.begin" (aB (tp 24) 2) 3 zah (r 250)
def o267:=tu []
def o268:=nf []
def o269:=tu [.str "self" 513]
def o270:=tu []
def o271:=nv "rooms" "Machine.rooms" (aB (tp 24) 3) 0 .none .none
def o272:=co [.str "rooms" 510,.str "Machine.rooms" 511,cp 512,i0 127,i0 1,i0 0,i0 0,i0 3,r 252,.bool true,i0 181,r 253,.none,r 254,r 255,r 256,i0 514,i0 127,cp 515]
def o273:=fv "rooms" "Machine.rooms" (aB (tp 24) 3) 3 zah (r 257)
def o274:=tu []
def o275:=nf []
def o276:=tu [.str "self" 520]
def o277:=tu []
def o278:=nv "ends" "Machine.ends" (aB (tp 24) 4) 0 .none .none
def o279:=co [.str "ends" 517,.str "Machine.ends" 518,cp 519,i0 130,i0 1,i0 0,i0 0,i0 3,r 259,.bool true,i0 181,r 260,.none,r 261,r 262,r 263,i0 521,i0 130,cp 522]
def o280:=fv "ends" "Machine.ends" (aB (tp 24) 4) 3 zah (r 264)
def o281:=tu []
def o282:=nf []
def o283:=tu [.str "self" 527]
def o284:=tu []
def o285:=nv "knows" "Machine.knows" (aB (tp 24) 5) 0 .none .none
def o286:=co [.str "knows" 524,.str "Machine.knows" 525,cp 526,i0 133,i0 1,i0 0,i0 0,i0 3,r 266,.bool true,i0 181,r 267,.none,r 268,r 269,r 270,i0 528,i0 133,cp 529]
def o287:=fv "knows" "Machine.knows" (aB (tp 24) 5) 3 zah (r 271)
def o288:=tu []
def o289:=nf []
def o290:=tu [.str "self" 534,.str "room" 535]
def o291:=tu []
def o292:=nv "require_room" "Machine.require_room" (aB (tp 24) 6) 0 .none .none
def o293:=co [.str "require_room" 531,.str "Machine.require_room" 532,cp 533,i0 136,i0 2,i0 0,i0 0,i0 3,r 273,.bool true,i0 181,r 274,.none,r 275,r 276,r 277,i0 536,i0 136,cp 537]
def o294:=fv "require_room" "Machine.require_room" (aB (tp 24) 6) 3 zah (r 278)
def o295:=tu []
def o296:=nf []
def o297:=tu [.str "self" 542,.str "room" 543]
def o298:=tu []
def o299:=nv "at" "Machine.at" (aB (tp 24) 7) 0 .none .none
def o300:=co [.str "at" 539,.str "Machine.at" 540,cp 541,i0 140,i0 2,i0 0,i0 0,i0 3,r 280,.bool true,i0 181,r 281,.none,r 282,r 283,r 284,i0 544,i0 140,cp 545]
def o301:=fv "at" "Machine.at" (aB (tp 24) 7) 3 zah (r 285)
def o302:=tu []
def o303:=nf []
def o304:=tu [.str "self" 550,.str "room" 551,.str "deed" 552]
def o305:=tu []
def o306:=nv "to" "Machine.to" (aB (tp 24) 8) 0 .none .none
def o307:=co [.str "to" 547,.str "Machine.to" 548,cp 549,i0 144,i0 3,i0 0,i0 0,i0 3,r 287,.bool true,i0 181,r 288,.none,r 289,r 290,r 291,i0 553,i0 144,cp 554]
def o308:=fv "to" "Machine.to" (aB (tp 24) 8) 3 zah (r 292)
def o309:=tu []
def o310:=nf []
def o311:=tu [.str "self" 559,.str "room" 560]
def o312:=tu []
def o313:=nv "is_end" "Machine.is_end" (aB (tp 24) 9) 0 .none .none
def o314:=co [.str "is_end" 556,.str "Machine.is_end" 557,cp 558,i0 149,i0 2,i0 0,i0 0,i0 3,r 294,.bool true,i0 181,r 295,.none,r 296,r 297,r 298,i0 561,i0 149,cp 562]
def o315:=fv "is_end" "Machine.is_end" (aB (tp 24) 9) 3 zah (r 299)
def o316:=tu []
def o317:=nf []
def o318:=tu [.str "self" 567,.str "room" 568,.str "deed" 569]
def o319:=tu []
def o320:=nv "goes" "Machine.goes" (aB (tp 24) 10) 0 .none .none
def o321:=co [.str "goes" 564,.str "Machine.goes" 565,cp 566,i0 153,i0 3,i0 0,i0 0,i0 3,r 301,.bool true,i0 181,r 302,.none,r 303,r 304,r 305,i0 570,i0 153,cp 571]
def o322:=fv "goes" "Machine.goes" (aB (tp 24) 10) 3 zah (r 306)
def o323:=tu []
def o324:=nf []
def o325:=tu [.str "self" 576,.str "row" 577,.str "room" 578,.str "deed" 579]
def o326:=tu []
def o327:=nv "behind" "Machine.behind" (aB (tp 24) 11) 0 .none .none
def o328:=co [.str "behind" 573,.str "Machine.behind" 574,cp 575,i0 158,i0 2,i0 0,i0 0,i0 3,r 308,.bool true,i0 181,r 309,.none,r 310,r 311,r 312,i0 580,i0 158,cp 581]
def o329:=fv "behind" "Machine.behind" (aB (tp 24) 11) 3 zah (r 313)
def o330:=tu [.str "deeds_made_of" 583,.str "end_marks" 584,.str "first_room" 585,.str "known_marks" 586,.str "leads" 587]
def g13 (P:Params):List DictEntry:=[en P "__firstlineno__" 489 (.int 104 488),en P "__init__" 495 (.ref 237),en P "deeds" 502 (.ref 244),en P "begin" 509 (.ref 251),en P "rooms" 516 (.ref 258),en P "ends" 523 (.ref 265),en P "knows" 530 (.ref 272),en P "require_room" 538 (.ref 279),en P "at" 546 (.ref 286),en P "to" 555 (.ref 293),en P "is_end" 563 (.ref 300),en P "goes" 572 (.ref 307),en P "behind" 582 (.ref 314),en P "__static_attributes__" 588 (.ref 315),en P "__dict__" 590 (.ref 318),en P "__weakref__" 592 (.ref 319),en P "__doc__" 593 .none]
def o331 (P:Params):Obj:=⟨.type "dict",none,.dict ⟨en P "__module__" 485 zah::g13 P⟩ 4,#[]⟩
def o332:Obj:=⟨.type "type",none,.cls ⟨"Machine",[.type "object"],[r 317,.type "object"],316,"Machine",true,[],[],false,none,false⟩,#[none,none,(some (.str "Machine" 478)),(some (.str "Machine" 486)),zae,zaj]⟩
def o333:Obj:=⟨.type "getset_descriptor",none,.fields #[.str "__dict__" 589,r 317,.builtin "function.__dict__",.builtin "function.__dict__#set"],#[]⟩
def o334:Obj:=⟨.type "getset_descriptor",none,.fields #[.str "__weakref__" 591,r 317,.builtin "ExceptionGroup.__weakref__",.none],#[]⟩
def o335:Obj:=⟨.type "super",none,.fields #[r 317,r 317,r 317],#[]⟩
def o336:Obj:=⟨.type "builtin_function_or_method",none,.fields #[.builtin "object.__init_subclass__",r 317],#[]⟩
def T10 (P:Params):BT:=ns (T9 P) [(3,o238 P),(12,o239),(225,o240),(226,o241),(227,o242 P),(228,o243),(229,o244),(230,o245),(231,o246),(232,o247),(233,o248),(234,o249),(235,o250),(236,o251),(237,o252),(238,o253),(239,o254),(240,o255),(241,o256),(242,o257),(243,o258),(244,o259),(245,o260),(246,o261),(247,o262),(248,o263),(249,o264),(250,o265),(251,o266),(252,o267),(253,o268),(254,o269),(255,o270),(256,o271),(257,o272),(258,o273),(259,o274),(260,o275),(261,o276),(262,o277),(263,o278),(264,o279),(265,o280),(266,o281),(267,o282),(268,o283),(269,o284),(270,o285),(271,o286),(272,o287),(273,o288),(274,o289),(275,o290),(276,o291),(277,o292),(278,o293),(279,o294),(280,o295),(281,o296),(282,o297),(283,o298),(284,o299),(285,o300),(286,o301),(287,o302),(288,o303),(289,o304),(290,o305),(291,o306),(292,o307),(293,o308),(294,o309),(295,o310),(296,o311),(297,o312),(298,o313),(299,o314),(300,o315),(301,o316),(302,o317),(303,o318),(304,o319),(305,o320),(306,o321),(307,o322),(308,o323),(309,o324),(310,o325),(311,o326),(312,o327),(313,o328),(314,o329),(315,o330),(316,o331 P),(317,o332),(318,o333),(319,o334),(320,o335),(321,o336)]
theorem pc10:Hd.Pc pp env T9 225 478 T10 322 596 575 [tp 24] ⟨95,0,103,16⟩ ⟨104,0,165,19⟩:=by
 intro w
 kernel_rfl
def g14 (P:Params):List DictEntry:=g11 P++[en P "rows_to" 612 (.ref 328),en P "come_to" 621 (.ref 335),en P "MOST_WOVEN" 625 (.int 7 624),en P "begin_of" 631 (.ref 340),en P "far_of" 637 (.ref 345),en P "all_at_ends" 643 (.ref 350),en P "known_of" 652 (.ref 357)]
def o337 (P:Params):Obj:=⟨.type "dict",none,.dict ⟨en P "__name__" 165 zai::g14 P⟩ 38,#[]⟩
def o338:=nf [i0 1,i0 0,r 20,i0 5,i0 0,r 27,i0 7,i0 0,r 40,i0 9,i0 0,r 52,i0 11,i0 0,r 64,i0 13,i0 0,r 76,i0 15,i0 0,r 88,i0 17,i0 0,r 100,i0 24,i0 0,r 110,i0 29,i0 0,r 117,i0 39,i0 0,r 124,i0 46,i0 0,r 131,i0 51,i0 0,r 138,i0 84,i0 0,r 209,i0 91,i0 0,r 216,i0 95,i0 0,r 223,i0 104,i0 0,r 230,i0 167,i0 0,r 327,i0 181,i0 0,r 334,i0 185,i0 0,r 339,i0 187,i0 0,r 344,i0 190,i0 0,r 349,i0 192,i0 0,r 356]
def o339:=tu []
def o340:=nf []
def o341:=tu [.str "begin" 601,.str "doors" 602,.str "most" 603,.str "rows" 604,.str "rooms" 605,.str "place" 606,.str "room" 607,.str "deed" 608,.str "far" 609]
def o342:=tu []
def o343:=nw "rows_to" (tp 26) 0 .none .none
def o344:=co [.str "rows_to" 598,.str "rows_to" 599,cp 600,i0 167,i0 3,i0 0,i0 0,i0 3,r 322,.bool true,i0 181,r 323,.none,r 324,r 325,r 326,i0 610,i0 167,cp 611]
def o345:=fw "rows_to" (tp 26) 3 (.str "roomward.coming" 596) (r 327)
def o346:=tu []
def o347:=nf []
def o348:=tu [.str "begin" 616,.str "doors" 617,.str "most" 618]
def o349:=tu []
def o350:=nw "come_to" (tp 27) 0 .none .none
def o351:=co [.str "come_to" 613,.str "come_to" 614,cp 615,i0 181,i0 3,i0 0,i0 0,i0 3,r 329,.bool true,i0 181,r 330,.none,r 331,r 332,r 333,i0 619,i0 181,cp 620]
def o352:=fw "come_to" (tp 27) 3 (.str "roomward.coming" 596) (r 334)
def o353:=tu []
def o354:=nf []
def o355:=nw "begin_of" (tp 30) 0 .none .none
def o356:=co [.str "begin_of" 626,.str "begin_of" 627,cp 628,i0 185,i0 1,i0 0,i0 0,i0 3,r 336,.bool true,i0 181,r 337,.none,.none,.none,r 338,i0 629,i0 185,cp 630]
def o357:=fw "begin_of" (tp 30) 3 zai (r 339)
def o358:=tu []
def o359:=nf []
def o360:=nw "far_of" (tp 31) 0 .none .none
def o361:=co [.str "far_of" 632,.str "far_of" 633,cp 634,i0 187,i0 3,i0 0,i0 0,i0 3,r 341,.bool true,i0 181,r 342,.none,.none,.none,r 343,i0 635,i0 187,cp 636]
def o362:=fw "far_of" (tp 31) 3 zai (r 344)
def o363:=tu []
def o364:=nf []
def o365:=nw "all_at_ends" (tp 32) 0 .none .none
def o366:=co [.str "all_at_ends" 638,.str "all_at_ends" 639,cp 640,i0 190,i0 2,i0 0,i0 0,i0 3,r 346,.bool true,i0 181,r 347,.none,.none,.none,r 348,i0 641,i0 190,cp 642]
def o367:=fw "all_at_ends" (tp 32) 3 zai (r 349)
def o368:=tu []
def o369:=nf []
def o370:=tu [.str "machines" 647,.str "known" 648,.str "machine" 649]
def o371:=tu []
def o372:=nw "known_of" (tp 33) 0 .none .none
def o373:=co [.str "known_of" 644,.str "known_of" 645,cp 646,i0 192,i0 1,i0 0,i0 0,i0 3,r 351,.bool true,i0 181,r 352,.none,r 353,r 354,r 355,i0 650,i0 192,cp 651]
def o374:=fw "known_of" (tp 33) 3 zai (r 356)
def T11 (P:Params):BT:=ns (T10 P) [(3,o337 P),(12,o338),(322,o339),(323,o340),(324,o341),(325,o342),(326,o343),(327,o344),(328,o345),(329,o346),(330,o347),(331,o348),(332,o349),(333,o350),(334,o351),(335,o352),(336,o353),(337,o354),(338,o355),(339,o356),(340,o357),(341,o358),(342,o359),(343,o360),(344,o361),(345,o362),(346,o363),(347,o364),(348,o365),(349,o366),(350,o367),(351,o368),(352,o369),(353,o370),(354,o371),(355,o372),(356,o373),(357,o374)]
theorem pc11:Hd.Pc pp env T10 322 596 T11 358 653 205 [tp 25,tp 26,tp 27,tp 28,tp 29,tp 30,tp 31,tp 32,tp 33] ⟨104,0,165,19⟩ ⟨192,0,196,26⟩:=by
 intro w
 kernel_rfl
def g15 (P:Params):List DictEntry:=g14 P++[en P "Woven" 740 (.ref 426)]
def o375 (P:Params):Obj:=⟨.type "dict",none,.dict ⟨en P "__name__" 165 zai::g15 P⟩ 39,#[]⟩
def o376:=nf [i0 1,i0 0,r 20,i0 5,i0 0,r 27,i0 7,i0 0,r 40,i0 9,i0 0,r 52,i0 11,i0 0,r 64,i0 13,i0 0,r 76,i0 15,i0 0,r 88,i0 17,i0 0,r 100,i0 24,i0 0,r 110,i0 29,i0 0,r 117,i0 39,i0 0,r 124,i0 46,i0 0,r 131,i0 51,i0 0,r 138,i0 84,i0 0,r 209,i0 91,i0 0,r 216,i0 95,i0 0,r 223,i0 104,i0 0,r 230,i0 167,i0 0,r 327,i0 181,i0 0,r 334,i0 185,i0 0,r 339,i0 187,i0 0,r 344,i0 190,i0 0,r 349,i0 192,i0 0,r 356,i0 197,i0 0,r 363]
def o377:=tu []
def o378:Obj:=zaa
def g16 (P:Params):List DictEntry:=[en P "__qualname__" 662 (.str "Woven" 661),en P "__firstlineno__" 664 (.int 197 663),en P "__init__" 672 (.ref 371),en P "deeds" 679 (.ref 378),en P "begin" 686 (.ref 385),en P "knows" 693 (.ref 392),en P "at" 699 (.ref 397),en P "to" 708 (.ref 404),en P "is_end" 716 (.ref 411),en P "ways" 722 (.ref 416),en P "rooms" 730 (.ref 423),en P "__static_attributes__" 733 (.ref 424)]
def o379 (P:Params):Obj:=⟨.type "dict",none,.dict ⟨en P "__module__" 660 zai::g16 P⟩ 13,#[]⟩
def o380:=tu []
def o381:=nf [i0 199,i0 4,r 370,i0 205,i0 4,r 377,i0 208,i0 4,r 384,i0 211,i0 4,r 391,i0 214,i0 4,r 396,i0 217,i0 4,r 403,i0 223,i0 4,r 410,i0 226,i0 4,r 415,i0 229,i0 4,r 422]
def o382:=cv "Woven" 655 "Woven" 656 657 197 0 0 0 0 361 181 362 658 659
def o383:=fm 363 3 360 "roomward.weaving" 622 0
def o384:=tu []
def o385:=nf []
def o386:=tu [.str "self" 668,.str "machines" 669]
def o387:=tu []
def o388:=nv "__init__" "Woven.__init__" (aB (tp 34) 0) 0 .none .none
def o389:=co [.str "__init__" 665,.str "Woven.__init__" 666,cp 667,i0 199,i0 2,i0 0,i0 0,i0 3,r 365,.bool true,i0 181,r 366,.none,r 367,r 368,r 369,i0 670,i0 199,cp 671]
def o390:=fv "__init__" "Woven.__init__" (aB (tp 34) 0) 3 zai (r 370)
def o391:=tu []
def o392:=nf []
def o393:=tu [.str "self" 676]
def o394:=tu []
def o395:=nv "deeds" "Woven.deeds" (aB (tp 34) 1) 0 .none .none
def o396:=co [.str "deeds" 673,.str "Woven.deeds" 674,cp 675,i0 205,i0 1,i0 0,i0 0,i0 3,r 372,.bool true,i0 181,r 373,.none,r 374,r 375,r 376,i0 677,i0 205,cp 678]
def o397:=fv "deeds" "Woven.deeds" (aB (tp 34) 1) 3 zai (r 377)
def o398:=tu []
def o399:=nf []
def o400:=tu [.str "self" 683]
def o401:=tu []
def o402:=nv "begin" "Woven.begin" (aB (tp 34) 2) 0 .none .none
def o403:=co [.str "begin" 680,.str "Woven.begin" 681,cp 682,i0 208,i0 1,i0 0,i0 0,i0 3,r 379,.bool true,i0 181,r 380,.none,r 381,r 382,r 383,i0 684,i0 208,cp 685]
def o404:=fv "begin" "Woven.begin" (aB (tp 34) 2) 3 zai (r 384)
def o405:=tu []
def o406:=nf []
def o407:=tu [.str "self" 690]
def o408:=tu []
def o409:=nv "knows" "Woven.knows" (aB (tp 34) 3) 0 .none .none
def o410:=co [.str "knows" 687,.str "Woven.knows" 688,cp 689,i0 211,i0 1,i0 0,i0 0,i0 3,r 386,.bool true,i0 181,r 387,.none,r 388,r 389,r 390,i0 691,i0 211,cp 692]
def o411:=fv "knows" "Woven.knows" (aB (tp 34) 3) 3 zai (r 391)
def o412:=tu []
def o413:=nf []
def o414:=nv "at" "Woven.at" (aB (tp 34) 4) 0 .none .none
def o415:=co [.str "at" 694,.str "Woven.at" 695,cp 696,i0 214,i0 2,i0 0,i0 0,i0 3,r 393,.bool true,i0 181,r 394,.none,.none,.none,r 395,i0 697,i0 214,cp 698]
def o416:=fv "at" "Woven.at" (aB (tp 34) 4) 3 zai (r 396)
def o417:=tu []
def o418:=nf []
def o419:=tu [.str "self" 703,.str "room" 704,.str "deed" 705]
def o420:=tu []
def o421:=nv "to" "Woven.to" (aB (tp 34) 5) 0 .none .none
def o422:=co [.str "to" 700,.str "Woven.to" 701,cp 702,i0 217,i0 3,i0 0,i0 0,i0 3,r 398,.bool true,i0 181,r 399,.none,r 400,r 401,r 402,i0 706,i0 217,cp 707]
def o423:=fv "to" "Woven.to" (aB (tp 34) 5) 3 zai (r 403)
def o424:=tu []
def o425:=nf []
def o426:=tu [.str "self" 712,.str "room" 713]
def o427:=tu []
def o428:=nv "is_end" "Woven.is_end" (aB (tp 34) 6) 0 .none .none
def o429:=co [.str "is_end" 709,.str "Woven.is_end" 710,cp 711,i0 223,i0 2,i0 0,i0 0,i0 3,r 405,.bool true,i0 181,r 406,.none,r 407,r 408,r 409,i0 714,i0 223,cp 715]
def o430:=fv "is_end" "Woven.is_end" (aB (tp 34) 6) 3 zai (r 410)
def o431:=tu []
def o432:=nf []
def o433:=nv "ways" "Woven.ways" (aB (tp 34) 7) 0 .none .none
def o434:=co [.str "ways" 717,.str "Woven.ways" 718,cp 719,i0 226,i0 2,i0 0,i0 0,i0 3,r 412,.bool true,i0 181,r 413,.none,.none,.none,r 414,i0 720,i0 226,cp 721]
def o435:=fv "ways" "Woven.ways" (aB (tp 34) 7) 3 zai (r 415)
def o436:=tu []
def o437:=nf []
def o438:=tu [.str "self" 726]
def o439:=tu [.str "self" 727]
def o440:=nv "rooms" "Woven.rooms" (aB (tp 34) 8) 0 .none .none
def o441:=co [.str "rooms" 723,.str "Woven.rooms" 724,cp 725,i0 229,i0 1,i0 0,i0 0,i0 3,r 417,.bool true,i0 181,r 418,.none,r 419,r 420,r 421,i0 728,i0 229,cp 729]
def o442:=fv "rooms" "Woven.rooms" (aB (tp 34) 8) 3 zai (r 422)
def o443:=tu [.str "known_marks" 731,.str "machines" 732]
def g17 (P:Params):List DictEntry:=[en P "__firstlineno__" 664 (.int 197 663),en P "__init__" 672 (.ref 371),en P "deeds" 679 (.ref 378),en P "begin" 686 (.ref 385),en P "knows" 693 (.ref 392),en P "at" 699 (.ref 397),en P "to" 708 (.ref 404),en P "is_end" 716 (.ref 411),en P "ways" 722 (.ref 416),en P "rooms" 730 (.ref 423),en P "__static_attributes__" 733 (.ref 424),en P "__dict__" 735 (.ref 427),en P "__weakref__" 737 (.ref 428),en P "__doc__" 738 .none]
def o444 (P:Params):Obj:=⟨.type "dict",none,.dict ⟨en P "__module__" 660 zai::g17 P⟩ 4,#[]⟩
def o445:Obj:=⟨.type "type",none,.cls ⟨"Woven",[.type "object"],[r 426,.type "object"],425,"Woven",true,[],[],false,none,false⟩,#[none,none,(some (.str "Woven" 653)),(some (.str "Woven" 661)),zae,zaj]⟩
def o446:Obj:=⟨.type "getset_descriptor",none,.fields #[.str "__dict__" 734,r 426,.builtin "function.__dict__",.builtin "function.__dict__#set"],#[]⟩
def o447:Obj:=⟨.type "getset_descriptor",none,.fields #[.str "__weakref__" 736,r 426,.builtin "ExceptionGroup.__weakref__",.none],#[]⟩
def o448:Obj:=⟨.type "super",none,.fields #[r 426,r 426,r 426],#[]⟩
def o449:Obj:=⟨.type "builtin_function_or_method",none,.fields #[.builtin "object.__init_subclass__",r 426],#[]⟩
def T12 (P:Params):BT:=ns (T11 P) [(3,o375 P),(12,o376),(358,o377),(359,o378),(360,o379 P),(361,o380),(362,o381),(363,o382),(364,o383),(365,o384),(366,o385),(367,o386),(368,o387),(369,o388),(370,o389),(371,o390),(372,o391),(373,o392),(374,o393),(375,o394),(376,o395),(377,o396),(378,o397),(379,o398),(380,o399),(381,o400),(382,o401),(383,o402),(384,o403),(385,o404),(386,o405),(387,o406),(388,o407),(389,o408),(390,o409),(391,o410),(392,o411),(393,o412),(394,o413),(395,o414),(396,o415),(397,o416),(398,o417),(399,o418),(400,o419),(401,o420),(402,o421),(403,o422),(404,o423),(405,o424),(406,o425),(407,o426),(408,o427),(409,o428),(410,o429),(411,o430),(412,o431),(413,o432),(414,o433),(415,o434),(416,o435),(417,o436),(418,o437),(419,o438),(420,o439),(421,o440),(422,o441),(423,o442),(424,o443),(425,o444 P),(426,o445),(427,o446),(428,o447),(429,o448),(430,o449)]
theorem pc12:Hd.Pc pp env T11 358 653 T12 431 741 470 [tp 34] ⟨192,0,196,26⟩ ⟨197,0,230,78⟩:=by
 intro w
 kernel_rfl
def g18 (P:Params):List DictEntry:=g15 P++[en P "made_one" 746 (.ref 435),en P "MOST_TIMES" 750 (.int 6 749),en P "MOST_RULES" 752 (.int 4 751),en P "MOST_DEEP" 754 (.int 3 753),en P "is_times" 761 (.ref 442),en P "Rule" 795 (.ref 466)]
def o450 (P:Params):Obj:=⟨.type "dict",none,.dict ⟨en P "__name__" 165 zab::g18 P⟩ 45,#[]⟩
def o451:=nf [i0 1,i0 0,r 20,i0 5,i0 0,r 27,i0 7,i0 0,r 40,i0 9,i0 0,r 52,i0 11,i0 0,r 64,i0 13,i0 0,r 76,i0 15,i0 0,r 88,i0 17,i0 0,r 100,i0 24,i0 0,r 110,i0 29,i0 0,r 117,i0 39,i0 0,r 124,i0 46,i0 0,r 131,i0 51,i0 0,r 138,i0 84,i0 0,r 209,i0 91,i0 0,r 216,i0 95,i0 0,r 223,i0 104,i0 0,r 230,i0 167,i0 0,r 327,i0 181,i0 0,r 334,i0 185,i0 0,r 339,i0 187,i0 0,r 344,i0 190,i0 0,r 349,i0 192,i0 0,r 356,i0 197,i0 0,r 363,i0 231,i0 0,r 434,i0 245,i0 0,r 441,i0 247,i0 0,r 448]
def o452:=tu []
def o453:=nf []
def o454:=nw "made_one" (tp 35) 0 .none .none
def o455:=co [.str "made_one" 741,.str "made_one" 742,cp 743,i0 231,i0 1,i0 0,i0 0,i0 3,r 431,.bool true,i0 181,r 432,.none,.none,.none,r 433,i0 744,i0 231,cp 745]
def o456:=fw "made_one" (tp 35) 3 zai (r 434)
def o457:=tu []
def o458:=nf []
def o459:=tu [.str "thing" 758]
def o460:=tu []
def o461:=nw "is_times" (tp 40) 0 .none .none
def o462:=co [.str "is_times" 755,.str "is_times" 756,cp 757,i0 245,i0 1,i0 0,i0 0,i0 3,r 436,.bool true,i0 181,r 437,.none,r 438,r 439,r 440,i0 759,i0 245,cp 760]
def o463:=fw "is_times" (tp 40) 3 zab (r 441)
def o464:=tu []
def o465:Obj:=zaa
def g19 (P:Params):List DictEntry:=[en P "__qualname__" 771 (.str "Rule" 770),en P "__firstlineno__" 773 (.int 247 772),en P "about" 780 (.ref 456),en P "deep" 787 (.ref 463),en P "__static_attributes__" 788 (.ref 464)]
def o466 (P:Params):Obj:=⟨.type "dict",none,.dict ⟨en P "__module__" 769 zab::g19 P⟩ 6,#[]⟩
def o467:=tu []
def o468:=nf [i0 249,i0 4,r 455,i0 252,i0 4,r 462]
def o469:=cv "Rule" 764 "Rule" 765 766 247 0 0 0 0 446 181 447 767 768
def o470:=fm 448 3 445 "roomward.rules" 747 0
def o471:=tu []
def o472:=nf []
def o473:=tu [.str "self" 777]
def o474:=tu []
def o475:=nv "about" "Rule.about" (aB (tp 41) 0) 0 .none .none
def o476:=co [.str "about" 774,.str "Rule.about" 775,cp 776,i0 249,i0 1,i0 0,i0 0,i0 3,r 450,.bool true,i0 181,r 451,.none,r 452,r 453,r 454,i0 778,i0 249,cp 779]
def o477:=fv "about" "Rule.about" (aB (tp 41) 0) 3 zab (r 455)
def o478:=tu []
def o479:=nf []
def o480:=tu [.str "self" 784]
def o481:=tu []
def o482:=nv "deep" "Rule.deep" (aB (tp 41) 1) 0 .none .none
def o483:=co [.str "deep" 781,.str "Rule.deep" 782,cp 783,i0 252,i0 1,i0 0,i0 0,i0 3,r 457,.bool true,i0 181,r 458,.none,r 459,r 460,r 461,i0 785,i0 252,cp 786]
def o484:=fv "deep" "Rule.deep" (aB (tp 41) 1) 3 zab (r 462)
def o485:=tu []
def g20 (P:Params):List DictEntry:=[en P "__firstlineno__" 773 (.int 247 772),en P "about" 780 (.ref 456),en P "deep" 787 (.ref 463),en P "__static_attributes__" 788 (.ref 464),en P "__dict__" 790 (.ref 467),en P "__weakref__" 792 (.ref 468),en P "__doc__" 793 .none]
def o486 (P:Params):Obj:=⟨.type "dict",none,.dict ⟨en P "__module__" 769 zab::g20 P⟩ 4,#[]⟩
def o487:Obj:=⟨.type "type",none,.cls ⟨"Rule",[.type "object"],[r 466,.type "object"],465,"Rule",true,[],[],false,none,false⟩,#[none,none,zan,zao,zae,zaj]⟩
def o488:Obj:=⟨.type "getset_descriptor",none,.fields #[.str "__dict__" 789,r 466,.builtin "function.__dict__",.builtin "function.__dict__#set"],#[]⟩
def o489:Obj:=⟨.type "getset_descriptor",none,.fields #[.str "__weakref__" 791,r 466,.builtin "ExceptionGroup.__weakref__",.none],#[]⟩
def o490:Obj:=⟨.type "super",none,.fields #[r 466,r 466,r 466],#[]⟩
def o491:Obj:=⟨.type "builtin_function_or_method",none,.fields #[.builtin "object.__init_subclass__",r 466],#[]⟩
def T13 (P:Params):BT:=ns (T12 P) [(3,o450 P),(12,o451),(431,o452),(432,o453),(433,o454),(434,o455),(435,o456),(436,o457),(437,o458),(438,o459),(439,o460),(440,o461),(441,o462),(442,o463),(443,o464),(444,o465),(445,o466 P),(446,o467),(447,o468),(448,o469),(449,o470),(450,o471),(451,o472),(452,o473),(453,o474),(454,o475),(455,o476),(456,o477),(457,o478),(458,o479),(459,o480),(460,o481),(461,o482),(462,o483),(463,o484),(464,o485),(465,o486 P),(466,o487),(467,o488),(468,o489),(469,o490),(470,o491)]
theorem pc13:Hd.Pc pp env T12 431 741 T13 471 796 343 [tp 35,tp 36,tp 37,tp 38,tp 39,tp 40,tp 41] ⟨197,0,230,78⟩ ⟨247,0,253,16⟩:=by
 intro w
 kernel_rfl
def g21 (P:Params):List DictEntry:=g18 P++[en P "Never" 835 (.ref 501)]
def o492 (P:Params):Obj:=⟨.type "dict",none,.dict ⟨en P "__name__" 165 zab::g21 P⟩ 46,#[]⟩
def o493:=nf [i0 1,i0 0,r 20,i0 5,i0 0,r 27,i0 7,i0 0,r 40,i0 9,i0 0,r 52,i0 11,i0 0,r 64,i0 13,i0 0,r 76,i0 15,i0 0,r 88,i0 17,i0 0,r 100,i0 24,i0 0,r 110,i0 29,i0 0,r 117,i0 39,i0 0,r 124,i0 46,i0 0,r 131,i0 51,i0 0,r 138,i0 84,i0 0,r 209,i0 91,i0 0,r 216,i0 95,i0 0,r 223,i0 104,i0 0,r 230,i0 167,i0 0,r 327,i0 181,i0 0,r 334,i0 185,i0 0,r 339,i0 187,i0 0,r 344,i0 190,i0 0,r 349,i0 192,i0 0,r 356,i0 197,i0 0,r 363,i0 231,i0 0,r 434,i0 245,i0 0,r 441,i0 247,i0 0,r 448,i0 254,i0 0,r 476]
def o494:Obj:=⟨.type "type",none,.cls ⟨"Rule",[.type "object"],[r 466,.type "object"],465,"Rule",true,[],[r 501],false,none,false⟩,#[none,none,zan,zao,zae,zaj]⟩
def o495:=tu [r 466]
def o496:Obj:=zaa
def g22 (P:Params):List DictEntry:=[en P "__qualname__" 805 (.str "Never" 804),en P "__firstlineno__" 807 (.int 254 806),en P "__init__" 815 (.ref 484),en P "about" 822 (.ref 491),en P "machine" 830 (.ref 498),en P "__static_attributes__" 832 (.ref 499)]
def o497 (P:Params):Obj:=⟨.type "dict",none,.dict ⟨en P "__module__" 803 zab::g22 P⟩ 7,#[]⟩
def o498:=tu []
def o499:=nf [i0 256,i0 4,r 483,i0 259,i0 4,r 490,i0 262,i0 4,r 497]
def o500:=cv "Never" 798 "Never" 799 800 254 0 0 0 0 474 181 475 801 802
def o501:=fm 476 3 473 "roomward.rules" 747 0
def o502:=tu []
def o503:=nf []
def o504:=tu [.str "self" 811,.str "deed" 812]
def o505:=tu []
def o506:=nv "__init__" "Never.__init__" (aB (tp 42) 0) 0 .none .none
def o507:=co [.str "__init__" 808,.str "Never.__init__" 809,cp 810,i0 256,i0 2,i0 0,i0 0,i0 3,r 478,.bool true,i0 181,r 479,.none,r 480,r 481,r 482,i0 813,i0 256,cp 814]
def o508:=fv "__init__" "Never.__init__" (aB (tp 42) 0) 3 zab (r 483)
def o509:=tu []
def o510:=nf []
def o511:=tu [.str "self" 819]
def o512:=tu []
def o513:=nv "about" "Never.about" (aB (tp 42) 1) 0 .none .none
def o514:=co [.str "about" 816,.str "Never.about" 817,cp 818,i0 259,i0 1,i0 0,i0 0,i0 3,r 485,.bool true,i0 181,r 486,.none,r 487,r 488,r 489,i0 820,i0 259,cp 821]
def o515:=fv "about" "Never.about" (aB (tp 42) 1) 3 zab (r 490)
def o516:=tu []
def o517:=nf []
def o518:=tu [.str "self" 826,.str "deeds" 827]
def o519:=tu []
def o520:=nv "machine" "Never.machine" (aB (tp 42) 2) 0 .none .none
def o521:=co [.str "machine" 823,.str "Never.machine" 824,cp 825,i0 262,i0 2,i0 0,i0 0,i0 3,r 492,.bool true,i0 181,r 493,.none,r 494,r 495,r 496,i0 828,i0 262,cp 829]
def o522:=fv "machine" "Never.machine" (aB (tp 42) 2) 3 zab (r 497)
def o523:=tu [.str "deed" 831]
def g23 (P:Params):List DictEntry:=[en P "__firstlineno__" 807 (.int 254 806),en P "__init__" 815 (.ref 484),en P "about" 822 (.ref 491),en P "machine" 830 (.ref 498),en P "__static_attributes__" 832 (.ref 499),en P "__doc__" 833 .none]
def o524 (P:Params):Obj:=⟨.type "dict",none,.dict ⟨en P "__module__" 803 zab::g23 P⟩ 2,#[]⟩
def o525:Obj:=⟨.type "type",none,.cls ⟨"Never",[r 466],[r 501,r 466,.type "object"],500,"Never",true,[],[],false,none,false⟩,#[(some (r 471)),none,(some (.str "Never" 796)),(some (.str "Never" 804)),zae,zaj]⟩
def o526:Obj:=⟨.type "super",none,.fields #[r 501,r 501,r 501],#[]⟩
def o527:Obj:=⟨.type "builtin_function_or_method",none,.fields #[.builtin "object.__init_subclass__",r 501],#[]⟩
def T14 (P:Params):BT:=ns (T13 P) [(3,o492 P),(12,o493),(466,o494),(471,o495),(472,o496),(473,o497 P),(474,o498),(475,o499),(476,o500),(477,o501),(478,o502),(479,o503),(480,o504),(481,o505),(482,o506),(483,o507),(484,o508),(485,o509),(486,o510),(487,o511),(488,o512),(489,o513),(490,o514),(491,o515),(492,o516),(493,o517),(494,o518),(495,o519),(496,o520),(497,o521),(498,o522),(499,o523),(500,o524 P),(501,o525),(502,o526),(503,o527)]
theorem pc14:Hd.Pc pp env T13 471 796 T14 504 836 309 [tp 42] ⟨247,0,253,16⟩ ⟨254,0,263,61⟩:=by
 intro w
 kernel_rfl
def g24 (P:Params):List DictEntry:=g21 P++[en P "Most" 875 (.ref 532)]
def o528 (P:Params):Obj:=⟨.type "dict",none,.dict ⟨en P "__name__" 165 zab::g24 P⟩ 47,#[]⟩
def o529:=nf [i0 1,i0 0,r 20,i0 5,i0 0,r 27,i0 7,i0 0,r 40,i0 9,i0 0,r 52,i0 11,i0 0,r 64,i0 13,i0 0,r 76,i0 15,i0 0,r 88,i0 17,i0 0,r 100,i0 24,i0 0,r 110,i0 29,i0 0,r 117,i0 39,i0 0,r 124,i0 46,i0 0,r 131,i0 51,i0 0,r 138,i0 84,i0 0,r 209,i0 91,i0 0,r 216,i0 95,i0 0,r 223,i0 104,i0 0,r 230,i0 167,i0 0,r 327,i0 181,i0 0,r 334,i0 185,i0 0,r 339,i0 187,i0 0,r 344,i0 190,i0 0,r 349,i0 192,i0 0,r 356,i0 197,i0 0,r 363,i0 231,i0 0,r 434,i0 245,i0 0,r 441,i0 247,i0 0,r 448,i0 254,i0 0,r 476,i0 264,i0 0,r 509]
def o530:Obj:=⟨.type "type",none,.cls ⟨"Rule",[.type "object"],[r 466,.type "object"],465,"Rule",true,[],[r 501,r 532],false,none,false⟩,#[none,none,zan,zao,zae,zaj]⟩
def o531:=tu [r 466]
def o532:Obj:=zaa
def g25 (P:Params):List DictEntry:=[en P "__qualname__" 845 (.str "Most" 844),en P "__firstlineno__" 847 (.int 264 846),en P "__init__" 856 (.ref 517),en P "about" 863 (.ref 524),en P "machine" 869 (.ref 529),en P "__static_attributes__" 872 (.ref 530)]
def o533 (P:Params):Obj:=⟨.type "dict",none,.dict ⟨en P "__module__" 843 zab::g25 P⟩ 7,#[]⟩
def o534:=tu []
def o535:=nf [i0 266,i0 4,r 516,i0 272,i0 4,r 523,i0 275,i0 4,r 528]
def o536:=cv "Most" 838 "Most" 839 840 264 0 0 0 0 507 181 508 841 842
def o537:=fm 509 3 506 "roomward.rules" 747 0
def o538:=tu []
def o539:=nf []
def o540:=tu [.str "self" 851,.str "deed" 852,.str "many" 853]
def o541:=tu []
def o542:=nv "__init__" "Most.__init__" (aB (tp 43) 0) 0 .none .none
def o543:=co [.str "__init__" 848,.str "Most.__init__" 849,cp 850,i0 266,i0 3,i0 0,i0 0,i0 3,r 511,.bool true,i0 181,r 512,.none,r 513,r 514,r 515,i0 854,i0 266,cp 855]
def o544:=fv "__init__" "Most.__init__" (aB (tp 43) 0) 3 zab (r 516)
def o545:=tu []
def o546:=nf []
def o547:=tu [.str "self" 860]
def o548:=tu []
def o549:=nv "about" "Most.about" (aB (tp 43) 1) 0 .none .none
def o550:=co [.str "about" 857,.str "Most.about" 858,cp 859,i0 272,i0 1,i0 0,i0 0,i0 3,r 518,.bool true,i0 181,r 519,.none,r 520,r 521,r 522,i0 861,i0 272,cp 862]
def o551:=fv "about" "Most.about" (aB (tp 43) 1) 3 zab (r 523)
def o552:=tu []
def o553:=nf []
def o554:=nv "machine" "Most.machine" (aB (tp 43) 2) 0 .none .none
def o555:=co [.str "machine" 864,.str "Most.machine" 865,cp 866,i0 275,i0 2,i0 0,i0 0,i0 3,r 525,.bool true,i0 181,r 526,.none,.none,.none,r 527,i0 867,i0 275,cp 868]
def o556:=fv "machine" "Most.machine" (aB (tp 43) 2) 3 zab (r 528)
def o557:=tu [.str "deed" 870,.str "many" 871]
def g26 (P:Params):List DictEntry:=[en P "__firstlineno__" 847 (.int 264 846),en P "__init__" 856 (.ref 517),en P "about" 863 (.ref 524),en P "machine" 869 (.ref 529),en P "__static_attributes__" 872 (.ref 530),en P "__doc__" 873 .none]
def o558 (P:Params):Obj:=⟨.type "dict",none,.dict ⟨en P "__module__" 843 zab::g26 P⟩ 2,#[]⟩
def o559:Obj:=⟨.type "type",none,.cls ⟨"Most",[r 466],[r 532,r 466,.type "object"],531,"Most",true,[],[],false,none,false⟩,#[(some (r 504)),none,(some (.str "Most" 836)),(some (.str "Most" 844)),zae,zaj]⟩
def o560:Obj:=⟨.type "super",none,.fields #[r 532,r 532,r 532],#[]⟩
def o561:Obj:=⟨.type "builtin_function_or_method",none,.fields #[.builtin "object.__init_subclass__",r 532],#[]⟩
def T15 (P:Params):BT:=ns (T14 P) [(3,o528 P),(12,o529),(466,o530),(504,o531),(505,o532),(506,o533 P),(507,o534),(508,o535),(509,o536),(510,o537),(511,o538),(512,o539),(513,o540),(514,o541),(515,o542),(516,o543),(517,o544),(518,o545),(519,o546),(520,o547),(521,o548),(522,o549),(523,o550),(524,o551),(525,o552),(526,o553),(527,o554),(528,o555),(529,o556),(530,o557),(531,o558 P),(532,o559),(533,o560),(534,o561)]
theorem pc15:Hd.Pc pp env T14 504 836 T15 535 876 307 [tp 43] ⟨254,0,263,61⟩ ⟨264,0,278,63⟩:=by
 intro w
 kernel_rfl
def g27 (P:Params):List DictEntry:=g24 P++[en P "OfTwo" 909 (.ref 558)]
def o562 (P:Params):Obj:=⟨.type "dict",none,.dict ⟨en P "__name__" 165 zab::g27 P⟩ 48,#[]⟩
def o563:=nf [i0 1,i0 0,r 20,i0 5,i0 0,r 27,i0 7,i0 0,r 40,i0 9,i0 0,r 52,i0 11,i0 0,r 64,i0 13,i0 0,r 76,i0 15,i0 0,r 88,i0 17,i0 0,r 100,i0 24,i0 0,r 110,i0 29,i0 0,r 117,i0 39,i0 0,r 124,i0 46,i0 0,r 131,i0 51,i0 0,r 138,i0 84,i0 0,r 209,i0 91,i0 0,r 216,i0 95,i0 0,r 223,i0 104,i0 0,r 230,i0 167,i0 0,r 327,i0 181,i0 0,r 334,i0 185,i0 0,r 339,i0 187,i0 0,r 344,i0 190,i0 0,r 349,i0 192,i0 0,r 356,i0 197,i0 0,r 363,i0 231,i0 0,r 434,i0 245,i0 0,r 441,i0 247,i0 0,r 448,i0 254,i0 0,r 476,i0 264,i0 0,r 509,i0 279,i0 0,r 540]
def o564:Obj:=⟨.type "type",none,.cls ⟨"Rule",[.type "object"],[r 466,.type "object"],465,"Rule",true,[],[r 501,r 532,r 558],false,none,false⟩,#[none,none,zan,zao,zae,zaj]⟩
def o565:=tu [r 466]
def o566:Obj:=zaa
def g28 (P:Params):List DictEntry:=[en P "__qualname__" 885 (.str "OfTwo" 884),en P "__firstlineno__" 887 (.int 279 886),en P "__init__" 896 (.ref 548),en P "about" 903 (.ref 555),en P "__static_attributes__" 906 (.ref 556)]
def o567 (P:Params):Obj:=⟨.type "dict",none,.dict ⟨en P "__module__" 883 zab::g28 P⟩ 6,#[]⟩
def o568:=tu []
def o569:=nf [i0 281,i0 4,r 547,i0 287,i0 4,r 554]
def o570:=cv "OfTwo" 878 "OfTwo" 879 880 279 0 0 0 0 538 181 539 881 882
def o571:=fm 540 3 537 "roomward.rules" 747 0
def o572:=tu []
def o573:=nf []
def o574:=tu [.str "self" 891,.str "one" 892,.str "other" 893]
def o575:=tu []
def o576:=nv "__init__" "OfTwo.__init__" (aB (tp 44) 0) 0 .none .none
def o577:=co [.str "__init__" 888,.str "OfTwo.__init__" 889,cp 890,i0 281,i0 3,i0 0,i0 0,i0 3,r 542,.bool true,i0 181,r 543,.none,r 544,r 545,r 546,i0 894,i0 281,cp 895]
def o578:=fv "__init__" "OfTwo.__init__" (aB (tp 44) 0) 3 zab (r 547)
def o579:=tu []
def o580:=nf []
def o581:=tu [.str "self" 900]
def o582:=tu []
def o583:=nv "about" "OfTwo.about" (aB (tp 44) 1) 0 .none .none
def o584:=co [.str "about" 897,.str "OfTwo.about" 898,cp 899,i0 287,i0 1,i0 0,i0 0,i0 3,r 549,.bool true,i0 181,r 550,.none,r 551,r 552,r 553,i0 901,i0 287,cp 902]
def o585:=fv "about" "OfTwo.about" (aB (tp 44) 1) 3 zab (r 554)
def o586:=tu [.str "one" 904,.str "other" 905]
def g29 (P:Params):List DictEntry:=[en P "__firstlineno__" 887 (.int 279 886),en P "__init__" 896 (.ref 548),en P "about" 903 (.ref 555),en P "__static_attributes__" 906 (.ref 556),en P "__doc__" 907 .none]
def o587 (P:Params):Obj:=⟨.type "dict",none,.dict ⟨en P "__module__" 883 zab::g29 P⟩ 2,#[]⟩
def o588:Obj:=⟨.type "type",none,.cls ⟨"OfTwo",[r 466],[r 558,r 466,.type "object"],557,"OfTwo",true,[],[],false,none,false⟩,zal⟩
def o589:Obj:=⟨.type "super",none,.fields #[r 558,r 558,r 558],#[]⟩
def o590:Obj:=⟨.type "builtin_function_or_method",none,.fields #[.builtin "object.__init_subclass__",r 558],#[]⟩
def T16 (P:Params):BT:=ns (T15 P) [(3,o562 P),(12,o563),(466,o564),(535,o565),(536,o566),(537,o567 P),(538,o568),(539,o569),(540,o570),(541,o571),(542,o572),(543,o573),(544,o574),(545,o575),(546,o576),(547,o577),(548,o578),(549,o579),(550,o580),(551,o581),(552,o582),(553,o583),(554,o584),(555,o585),(556,o586),(557,o587 P),(558,o588),(559,o589),(560,o590)]
theorem pc16:Hd.Pc pp env T15 535 876 T16 561 910 279 [tp 44] ⟨264,0,278,63⟩ ⟨279,0,288,37⟩:=by
 intro w
 kernel_rfl
def g30 (P:Params):List DictEntry:=g27 P++[en P "Ahead" 943 (.ref 584)]
def o591 (P:Params):Obj:=⟨.type "dict",none,.dict ⟨en P "__name__" 165 zab::g30 P⟩ 49,#[]⟩
def o592:=nf [i0 1,i0 0,r 20,i0 5,i0 0,r 27,i0 7,i0 0,r 40,i0 9,i0 0,r 52,i0 11,i0 0,r 64,i0 13,i0 0,r 76,i0 15,i0 0,r 88,i0 17,i0 0,r 100,i0 24,i0 0,r 110,i0 29,i0 0,r 117,i0 39,i0 0,r 124,i0 46,i0 0,r 131,i0 51,i0 0,r 138,i0 84,i0 0,r 209,i0 91,i0 0,r 216,i0 95,i0 0,r 223,i0 104,i0 0,r 230,i0 167,i0 0,r 327,i0 181,i0 0,r 334,i0 185,i0 0,r 339,i0 187,i0 0,r 344,i0 190,i0 0,r 349,i0 192,i0 0,r 356,i0 197,i0 0,r 363,i0 231,i0 0,r 434,i0 245,i0 0,r 441,i0 247,i0 0,r 448,i0 254,i0 0,r 476,i0 264,i0 0,r 509,i0 279,i0 0,r 540,i0 289,i0 0,r 566]
def o593:Obj:=⟨.type "type",none,.cls ⟨"OfTwo",[r 466],[r 558,r 466,.type "object"],557,"OfTwo",true,[],[r 584],false,none,false⟩,zal⟩
def o594:=tu [r 558]
def o595:Obj:=zaa
def g31 (P:Params):List DictEntry:=[en P "__qualname__" 919 (.str "Ahead" 918),en P "__firstlineno__" 921 (.int 289 920),en P "__init__" 930 (.ref 574),en P "machine" 939 (.ref 581),en P "__static_attributes__" 940 (.ref 582)]
def o596 (P:Params):Obj:=⟨.type "dict",none,.dict ⟨en P "__module__" 917 zab::g31 P⟩ 6,#[]⟩
def o597:=tu []
def o598:=nf [i0 291,i0 4,r 573,i0 294,i0 4,r 580]
def o599:=cv "Ahead" 912 "Ahead" 913 914 289 0 0 0 0 564 181 565 915 916
def o600:=fm 566 3 563 "roomward.rules" 747 0
def o601:=tu []
def o602:=nf []
def o603:=tu [.str "self" 925,.str "first" 926,.str "later" 927]
def o604:=tu []
def o605:=nv "__init__" "Ahead.__init__" (aB (tp 45) 0) 0 .none .none
def o606:=co [.str "__init__" 922,.str "Ahead.__init__" 923,cp 924,i0 291,i0 3,i0 0,i0 0,i0 3,r 568,.bool true,i0 181,r 569,.none,r 570,r 571,r 572,i0 928,i0 291,cp 929]
def o607:=fv "__init__" "Ahead.__init__" (aB (tp 45) 0) 3 zab (r 573)
def o608:=tu []
def o609:=nf []
def o610:=tu [.str "self" 934,.str "deeds" 935,.str "doors" 936]
def o611:=tu []
def o612:=nv "machine" "Ahead.machine" (aB (tp 45) 1) 0 .none .none
def o613:=co [.str "machine" 931,.str "Ahead.machine" 932,cp 933,i0 294,i0 2,i0 0,i0 0,i0 3,r 575,.bool true,i0 181,r 576,.none,r 577,r 578,r 579,i0 937,i0 294,cp 938]
def o614:=fv "machine" "Ahead.machine" (aB (tp 45) 1) 3 zab (r 580)
def o615:=tu []
def g32 (P:Params):List DictEntry:=[en P "__firstlineno__" 921 (.int 289 920),en P "__init__" 930 (.ref 574),en P "machine" 939 (.ref 581),en P "__static_attributes__" 940 (.ref 582),en P "__doc__" 941 .none]
def o616 (P:Params):Obj:=⟨.type "dict",none,.dict ⟨en P "__module__" 917 zab::g32 P⟩ 2,#[]⟩
def o617:Obj:=⟨.type "type",none,.cls ⟨"Ahead",[r 558],[r 584,r 558,r 466,.type "object"],583,"Ahead",true,[],[],false,none,false⟩,#[(some (r 561)),none,(some (.str "Ahead" 910)),(some (.str "Ahead" 918)),zae,zaj]⟩
def o618:Obj:=⟨.type "super",none,.fields #[r 584,r 584,r 584],#[]⟩
def o619:Obj:=⟨.type "builtin_function_or_method",none,.fields #[.builtin "object.__init_subclass__",r 584],#[]⟩
def T17 (P:Params):BT:=ns (T16 P) [(3,o591 P),(12,o592),(558,o593),(561,o594),(562,o595),(563,o596 P),(564,o597),(565,o598),(566,o599),(567,o600),(568,o601),(569,o602),(570,o603),(571,o604),(572,o605),(573,o606),(574,o607),(575,o608),(576,o609),(577,o610),(578,o611),(579,o612),(580,o613),(581,o614),(582,o615),(583,o616 P),(584,o617),(585,o618),(586,o619)]
theorem pc17:Hd.Pc pp env T16 561 910 T17 587 944 293 [tp 45] ⟨279,0,288,37⟩ ⟨289,0,296,56⟩:=by
 intro w
 kernel_rfl
def g33 (P:Params):List DictEntry:=g30 P++[en P "Turns" 977 (.ref 610)]
def o620 (P:Params):Obj:=⟨.type "dict",none,.dict ⟨en P "__name__" 165 zab::g33 P⟩ 50,#[]⟩
def o621:=nf [i0 1,i0 0,r 20,i0 5,i0 0,r 27,i0 7,i0 0,r 40,i0 9,i0 0,r 52,i0 11,i0 0,r 64,i0 13,i0 0,r 76,i0 15,i0 0,r 88,i0 17,i0 0,r 100,i0 24,i0 0,r 110,i0 29,i0 0,r 117,i0 39,i0 0,r 124,i0 46,i0 0,r 131,i0 51,i0 0,r 138,i0 84,i0 0,r 209,i0 91,i0 0,r 216,i0 95,i0 0,r 223,i0 104,i0 0,r 230,i0 167,i0 0,r 327,i0 181,i0 0,r 334,i0 185,i0 0,r 339,i0 187,i0 0,r 344,i0 190,i0 0,r 349,i0 192,i0 0,r 356,i0 197,i0 0,r 363,i0 231,i0 0,r 434,i0 245,i0 0,r 441,i0 247,i0 0,r 448,i0 254,i0 0,r 476,i0 264,i0 0,r 509,i0 279,i0 0,r 540,i0 289,i0 0,r 566,i0 297,i0 0,r 592]
def o622:Obj:=⟨.type "type",none,.cls ⟨"OfTwo",[r 466],[r 558,r 466,.type "object"],557,"OfTwo",true,[],[r 584,r 610],false,none,false⟩,zal⟩
def o623:=tu [r 558]
def o624:Obj:=zaa
def g34 (P:Params):List DictEntry:=[en P "__qualname__" 953 (.str "Turns" 952),en P "__firstlineno__" 955 (.int 297 954),en P "__init__" 964 (.ref 600),en P "machine" 973 (.ref 607),en P "__static_attributes__" 974 (.ref 608)]
def o625 (P:Params):Obj:=⟨.type "dict",none,.dict ⟨en P "__module__" 951 zab::g34 P⟩ 6,#[]⟩
def o626:=tu []
def o627:=nf [i0 299,i0 4,r 599,i0 302,i0 4,r 606]
def o628:=cv "Turns" 946 "Turns" 947 948 297 0 0 0 0 590 181 591 949 950
def o629:=fm 592 3 589 "roomward.rules" 747 0
def o630:=tu []
def o631:=nf []
def o632:=tu [.str "self" 959,.str "one" 960,.str "other" 961]
def o633:=tu []
def o634:=nv "__init__" "Turns.__init__" (aB (tp 46) 0) 0 .none .none
def o635:=co [.str "__init__" 956,.str "Turns.__init__" 957,cp 958,i0 299,i0 3,i0 0,i0 0,i0 3,r 594,.bool true,i0 181,r 595,.none,r 596,r 597,r 598,i0 962,i0 299,cp 963]
def o636:=fv "__init__" "Turns.__init__" (aB (tp 46) 0) 3 zab (r 599)
def o637:=tu []
def o638:=nf []
def o639:=tu [.str "self" 968,.str "deeds" 969,.str "doors" 970]
def o640:=tu []
def o641:=nv "machine" "Turns.machine" (aB (tp 46) 1) 0 .none .none
def o642:=co [.str "machine" 965,.str "Turns.machine" 966,cp 967,i0 302,i0 2,i0 0,i0 0,i0 3,r 601,.bool true,i0 181,r 602,.none,r 603,r 604,r 605,i0 971,i0 302,cp 972]
def o643:=fv "machine" "Turns.machine" (aB (tp 46) 1) 3 zab (r 606)
def o644:=tu []
def g35 (P:Params):List DictEntry:=[en P "__firstlineno__" 955 (.int 297 954),en P "__init__" 964 (.ref 600),en P "machine" 973 (.ref 607),en P "__static_attributes__" 974 (.ref 608),en P "__doc__" 975 .none]
def o645 (P:Params):Obj:=⟨.type "dict",none,.dict ⟨en P "__module__" 951 zab::g35 P⟩ 2,#[]⟩
def o646:Obj:=⟨.type "type",none,.cls ⟨"Turns",[r 558],[r 610,r 558,r 466,.type "object"],609,"Turns",true,[],[],false,none,false⟩,#[(some (r 587)),none,(some (.str "Turns" 944)),(some (.str "Turns" 952)),zae,zaj]⟩
def o647:Obj:=⟨.type "super",none,.fields #[r 610,r 610,r 610],#[]⟩
def o648:Obj:=⟨.type "builtin_function_or_method",none,.fields #[.builtin "object.__init_subclass__",r 610],#[]⟩
def T18 (P:Params):BT:=ns (T17 P) [(3,o620 P),(12,o621),(558,o622),(587,o623),(588,o624),(589,o625 P),(590,o626),(591,o627),(592,o628),(593,o629),(594,o630),(595,o631),(596,o632),(597,o633),(598,o634),(599,o635),(600,o636),(601,o637),(602,o638),(603,o639),(604,o640),(605,o641),(606,o642),(607,o643),(608,o644),(609,o645 P),(610,o646),(611,o647),(612,o648)]
theorem pc18:Hd.Pc pp env T17 587 944 T18 613 978 293 [tp 46] ⟨289,0,296,56⟩ ⟨297,0,304,56⟩:=by
 intro w
 kernel_rfl
def g36 (P:Params):List DictEntry:=g33 P++[en P "Hold" 1011 (.ref 636)]
def o649 (P:Params):Obj:=⟨.type "dict",none,.dict ⟨en P "__name__" 165 zab::g36 P⟩ 51,#[]⟩
def o650:=nf [i0 1,i0 0,r 20,i0 5,i0 0,r 27,i0 7,i0 0,r 40,i0 9,i0 0,r 52,i0 11,i0 0,r 64,i0 13,i0 0,r 76,i0 15,i0 0,r 88,i0 17,i0 0,r 100,i0 24,i0 0,r 110,i0 29,i0 0,r 117,i0 39,i0 0,r 124,i0 46,i0 0,r 131,i0 51,i0 0,r 138,i0 84,i0 0,r 209,i0 91,i0 0,r 216,i0 95,i0 0,r 223,i0 104,i0 0,r 230,i0 167,i0 0,r 327,i0 181,i0 0,r 334,i0 185,i0 0,r 339,i0 187,i0 0,r 344,i0 190,i0 0,r 349,i0 192,i0 0,r 356,i0 197,i0 0,r 363,i0 231,i0 0,r 434,i0 245,i0 0,r 441,i0 247,i0 0,r 448,i0 254,i0 0,r 476,i0 264,i0 0,r 509,i0 279,i0 0,r 540,i0 289,i0 0,r 566,i0 297,i0 0,r 592,i0 305,i0 0,r 618]
def o651:Obj:=⟨.type "type",none,.cls ⟨"OfTwo",[r 466],[r 558,r 466,.type "object"],557,"OfTwo",true,[],[r 584,r 610,r 636],false,none,false⟩,zal⟩
def o652:=tu [r 558]
def o653:Obj:=zaa
def g37 (P:Params):List DictEntry:=[en P "__qualname__" 987 (.str "Hold" 986),en P "__firstlineno__" 989 (.int 305 988),en P "__init__" 998 (.ref 626),en P "machine" 1007 (.ref 633),en P "__static_attributes__" 1008 (.ref 634)]
def o654 (P:Params):Obj:=⟨.type "dict",none,.dict ⟨en P "__module__" 985 zab::g37 P⟩ 6,#[]⟩
def o655:=tu []
def o656:=nf [i0 307,i0 4,r 625,i0 310,i0 4,r 632]
def o657:=cv "Hold" 980 "Hold" 981 982 305 0 0 0 0 616 181 617 983 984
def o658:=fm 618 3 615 "roomward.rules" 747 0
def o659:=tu []
def o660:=nf []
def o661:=tu [.str "self" 993,.str "deed" 994,.str "other" 995]
def o662:=tu []
def o663:=nv "__init__" "Hold.__init__" (aB (tp 47) 0) 0 .none .none
def o664:=co [.str "__init__" 990,.str "Hold.__init__" 991,cp 992,i0 307,i0 3,i0 0,i0 0,i0 3,r 620,.bool true,i0 181,r 621,.none,r 622,r 623,r 624,i0 996,i0 307,cp 997]
def o665:=fv "__init__" "Hold.__init__" (aB (tp 47) 0) 3 zab (r 625)
def o666:=tu []
def o667:=nf []
def o668:=tu [.str "self" 1002,.str "deeds" 1003,.str "doors" 1004]
def o669:=tu []
def o670:=nv "machine" "Hold.machine" (aB (tp 47) 1) 0 .none .none
def o671:=co [.str "machine" 999,.str "Hold.machine" 1000,cp 1001,i0 310,i0 2,i0 0,i0 0,i0 3,r 627,.bool true,i0 181,r 628,.none,r 629,r 630,r 631,i0 1005,i0 310,cp 1006]
def o672:=fv "machine" "Hold.machine" (aB (tp 47) 1) 3 zab (r 632)
def o673:=tu []
def g38 (P:Params):List DictEntry:=[en P "__firstlineno__" 989 (.int 305 988),en P "__init__" 998 (.ref 626),en P "machine" 1007 (.ref 633),en P "__static_attributes__" 1008 (.ref 634),en P "__doc__" 1009 .none]
def o674 (P:Params):Obj:=⟨.type "dict",none,.dict ⟨en P "__module__" 985 zab::g38 P⟩ 2,#[]⟩
def o675:Obj:=⟨.type "type",none,.cls ⟨"Hold",[r 558],[r 636,r 558,r 466,.type "object"],635,"Hold",true,[],[],false,none,false⟩,#[(some (r 613)),none,(some (.str "Hold" 978)),(some (.str "Hold" 986)),zae,zaj]⟩
def o676:Obj:=⟨.type "super",none,.fields #[r 636,r 636,r 636],#[]⟩
def o677:Obj:=⟨.type "builtin_function_or_method",none,.fields #[.builtin "object.__init_subclass__",r 636],#[]⟩
def T19 (P:Params):BT:=ns (T18 P) [(3,o649 P),(12,o650),(558,o651),(613,o652),(614,o653),(615,o654 P),(616,o655),(617,o656),(618,o657),(619,o658),(620,o659),(621,o660),(622,o661),(623,o662),(624,o663),(625,o664),(626,o665),(627,o666),(628,o667),(629,o668),(630,o669),(631,o670),(632,o671),(633,o672),(634,o673),(635,o674 P),(636,o675),(637,o676),(638,o677)]
theorem pc19:Hd.Pc pp env T18 613 978 T19 639 1012 293 [tp 47] ⟨297,0,304,56⟩ ⟨305,0,312,56⟩:=by
 intro w
 kernel_rfl
def g39 (P:Params):List DictEntry:=g36 P++[en P "Answer" 1045 (.ref 662)]
def o678 (P:Params):Obj:=⟨.type "dict",none,.dict ⟨en P "__name__" 165 zab::g39 P⟩ 52,#[]⟩
def o679:=nf [i0 1,i0 0,r 20,i0 5,i0 0,r 27,i0 7,i0 0,r 40,i0 9,i0 0,r 52,i0 11,i0 0,r 64,i0 13,i0 0,r 76,i0 15,i0 0,r 88,i0 17,i0 0,r 100,i0 24,i0 0,r 110,i0 29,i0 0,r 117,i0 39,i0 0,r 124,i0 46,i0 0,r 131,i0 51,i0 0,r 138,i0 84,i0 0,r 209,i0 91,i0 0,r 216,i0 95,i0 0,r 223,i0 104,i0 0,r 230,i0 167,i0 0,r 327,i0 181,i0 0,r 334,i0 185,i0 0,r 339,i0 187,i0 0,r 344,i0 190,i0 0,r 349,i0 192,i0 0,r 356,i0 197,i0 0,r 363,i0 231,i0 0,r 434,i0 245,i0 0,r 441,i0 247,i0 0,r 448,i0 254,i0 0,r 476,i0 264,i0 0,r 509,i0 279,i0 0,r 540,i0 289,i0 0,r 566,i0 297,i0 0,r 592,i0 305,i0 0,r 618,i0 313,i0 0,r 644]
def o680:Obj:=⟨.type "type",none,.cls ⟨"OfTwo",[r 466],[r 558,r 466,.type "object"],557,"OfTwo",true,[],[r 584,r 610,r 636,r 662],false,none,false⟩,zal⟩
def o681:=tu [r 558]
def o682:Obj:=zaa
def g40 (P:Params):List DictEntry:=[en P "__qualname__" 1021 (.str "Answer" 1020),en P "__firstlineno__" 1023 (.int 313 1022),en P "__init__" 1032 (.ref 652),en P "machine" 1041 (.ref 659),en P "__static_attributes__" 1042 (.ref 660)]
def o683 (P:Params):Obj:=⟨.type "dict",none,.dict ⟨en P "__module__" 1019 zab::g40 P⟩ 6,#[]⟩
def o684:=tu []
def o685:=nf [i0 315,i0 4,r 651,i0 318,i0 4,r 658]
def o686:=cv "Answer" 1014 "Answer" 1015 1016 313 0 0 0 0 642 181 643 1017 1018
def o687:=fm 644 3 641 "roomward.rules" 747 0
def o688:=tu []
def o689:=nf []
def o690:=tu [.str "self" 1027,.str "deed" 1028,.str "other" 1029]
def o691:=tu []
def o692:=nv "__init__" "Answer.__init__" (aB (tp 48) 0) 0 .none .none
def o693:=co [.str "__init__" 1024,.str "Answer.__init__" 1025,cp 1026,i0 315,i0 3,i0 0,i0 0,i0 3,r 646,.bool true,i0 181,r 647,.none,r 648,r 649,r 650,i0 1030,i0 315,cp 1031]
def o694:=fv "__init__" "Answer.__init__" (aB (tp 48) 0) 3 zab (r 651)
def o695:=tu []
def o696:=nf []
def o697:=tu [.str "self" 1036,.str "deeds" 1037,.str "doors" 1038]
def o698:=tu []
def o699:=nv "machine" "Answer.machine" (aB (tp 48) 1) 0 .none .none
def o700:=co [.str "machine" 1033,.str "Answer.machine" 1034,cp 1035,i0 318,i0 2,i0 0,i0 0,i0 3,r 653,.bool true,i0 181,r 654,.none,r 655,r 656,r 657,i0 1039,i0 318,cp 1040]
def o701:=fv "machine" "Answer.machine" (aB (tp 48) 1) 3 zab (r 658)
def o702:=tu []
def g41 (P:Params):List DictEntry:=[en P "__firstlineno__" 1023 (.int 313 1022),en P "__init__" 1032 (.ref 652),en P "machine" 1041 (.ref 659),en P "__static_attributes__" 1042 (.ref 660),en P "__doc__" 1043 .none]
def o703 (P:Params):Obj:=⟨.type "dict",none,.dict ⟨en P "__module__" 1019 zab::g41 P⟩ 2,#[]⟩
def o704:Obj:=⟨.type "type",none,.cls ⟨"Answer",[r 558],[r 662,r 558,r 466,.type "object"],661,"Answer",true,[],[],false,none,false⟩,#[(some (r 639)),none,(some (.str "Answer" 1012)),(some (.str "Answer" 1020)),zae,zaj]⟩
def o705:Obj:=⟨.type "super",none,.fields #[r 662,r 662,r 662],#[]⟩
def o706:Obj:=⟨.type "builtin_function_or_method",none,.fields #[.builtin "object.__init_subclass__",r 662],#[]⟩
def T20 (P:Params):BT:=ns (T19 P) [(3,o678 P),(12,o679),(558,o680),(639,o681),(640,o682),(641,o683 P),(642,o684),(643,o685),(644,o686),(645,o687),(646,o688),(647,o689),(648,o690),(649,o691),(650,o692),(651,o693),(652,o694),(653,o695),(654,o696),(655,o697),(656,o698),(657,o699),(658,o700),(659,o701),(660,o702),(661,o703 P),(662,o704),(663,o705),(664,o706)]
theorem pc20:Hd.Pc pp env T19 639 1012 T20 665 1046 293 [tp 48] ⟨305,0,312,56⟩ ⟨313,0,320,50⟩:=by
 intro w
 kernel_rfl
def g42 (P:Params):List DictEntry:=g39 P++[en P "All" 1091 (.ref 698),en P "keeps" 1100 (.ref 707)]
def o707 (P:Params):Obj:=⟨.type "dict",none,.dict ⟨en P "__name__" 165 zad::g42 P⟩ 54,#[]⟩
def o708:=nf [i0 1,i0 0,r 20,i0 5,i0 0,r 27,i0 7,i0 0,r 40,i0 9,i0 0,r 52,i0 11,i0 0,r 64,i0 13,i0 0,r 76,i0 15,i0 0,r 88,i0 17,i0 0,r 100,i0 24,i0 0,r 110,i0 29,i0 0,r 117,i0 39,i0 0,r 124,i0 46,i0 0,r 131,i0 51,i0 0,r 138,i0 84,i0 0,r 209,i0 91,i0 0,r 216,i0 95,i0 0,r 223,i0 104,i0 0,r 230,i0 167,i0 0,r 327,i0 181,i0 0,r 334,i0 185,i0 0,r 339,i0 187,i0 0,r 344,i0 190,i0 0,r 349,i0 192,i0 0,r 356,i0 197,i0 0,r 363,i0 231,i0 0,r 434,i0 245,i0 0,r 441,i0 247,i0 0,r 448,i0 254,i0 0,r 476,i0 264,i0 0,r 509,i0 279,i0 0,r 540,i0 289,i0 0,r 566,i0 297,i0 0,r 592,i0 305,i0 0,r 618,i0 313,i0 0,r 644,i0 321,i0 0,r 670,i0 344,i0 0,r 706]
def o709:Obj:=⟨.type "type",none,.cls ⟨"Rule",[.type "object"],[r 466,.type "object"],465,"Rule",true,[],[r 501,r 532,r 558,r 698],false,none,false⟩,#[none,none,zan,zao,zae,zaj]⟩
def o710:=tu [r 466]
def o711:Obj:=zaa
def g43 (P:Params):List DictEntry:=[en P "__qualname__" 1055 (.str "All" 1054),en P "__firstlineno__" 1057 (.int 321 1056),en P "__init__" 1065 (.ref 678),en P "about" 1074 (.ref 685),en P "deep" 1080 (.ref 690),en P "machine" 1086 (.ref 695),en P "__static_attributes__" 1088 (.ref 696)]
def o712 (P:Params):Obj:=⟨.type "dict",none,.dict ⟨en P "__module__" 1053 zab::g43 P⟩ 8,#[]⟩
def o713:=tu []
def o714:=nf [i0 323,i0 4,r 677,i0 330,i0 4,r 684,i0 336,i0 4,r 689,i0 339,i0 4,r 694]
def o715:=cv "All" 1048 "All" 1049 1050 321 0 0 0 0 668 181 669 1051 1052
def o716:=fm 670 3 667 "roomward.rules" 747 0
def o717:=tu []
def o718:=nf []
def o719:=tu [.str "self" 1061,.str "rules" 1062]
def o720:=tu []
def o721:=nv "__init__" "All.__init__" (aB (tp 49) 0) 0 .none .none
def o722:=co [.str "__init__" 1058,.str "All.__init__" 1059,cp 1060,i0 323,i0 2,i0 0,i0 0,i0 3,r 672,.bool true,i0 181,r 673,.none,r 674,r 675,r 676,i0 1063,i0 323,cp 1064]
def o723:=fv "__init__" "All.__init__" (aB (tp 49) 0) 3 zab (r 677)
def o724:=tu []
def o725:=nf []
def o726:=tu [.str "self" 1069,.str "deeds" 1070,.str "rule" 1071]
def o727:=tu []
def o728:=nv "about" "All.about" (aB (tp 49) 1) 0 .none .none
def o729:=co [.str "about" 1066,.str "All.about" 1067,cp 1068,i0 330,i0 1,i0 0,i0 0,i0 3,r 679,.bool true,i0 181,r 680,.none,r 681,r 682,r 683,i0 1072,i0 330,cp 1073]
def o730:=fv "about" "All.about" (aB (tp 49) 1) 3 zab (r 684)
def o731:=tu []
def o732:=nf []
def o733:=nv "deep" "All.deep" (aB (tp 49) 2) 0 .none .none
def o734:=co [.str "deep" 1075,.str "All.deep" 1076,cp 1077,i0 336,i0 1,i0 0,i0 0,i0 3,r 686,.bool true,i0 181,r 687,.none,.none,.none,r 688,i0 1078,i0 336,cp 1079]
def o735:=fv "deep" "All.deep" (aB (tp 49) 2) 3 zab (r 689)
def o736:=tu []
def o737:=nf []
def o738:=nv "machine" "All.machine" (aB (tp 49) 3) 0 .none .none
def o739:=co [.str "machine" 1081,.str "All.machine" 1082,cp 1083,i0 339,i0 2,i0 0,i0 0,i0 3,r 691,.bool true,i0 181,r 692,.none,.none,.none,r 693,i0 1084,i0 339,cp 1085]
def o740:=fv "machine" "All.machine" (aB (tp 49) 3) 3 zab (r 694)
def o741:=tu [.str "rules" 1087]
def g44 (P:Params):List DictEntry:=[en P "__firstlineno__" 1057 (.int 321 1056),en P "__init__" 1065 (.ref 678),en P "about" 1074 (.ref 685),en P "deep" 1080 (.ref 690),en P "machine" 1086 (.ref 695),en P "__static_attributes__" 1088 (.ref 696),en P "__doc__" 1089 .none]
def o742 (P:Params):Obj:=⟨.type "dict",none,.dict ⟨en P "__module__" 1053 zab::g44 P⟩ 2,#[]⟩
def o743:Obj:=⟨.type "type",none,.cls ⟨"All",[r 466],[r 698,r 466,.type "object"],697,"All",true,[],[],false,none,false⟩,#[(some (r 665)),none,(some (.str "All" 1046)),(some (.str "All" 1054)),zae,zaj]⟩
def o744:Obj:=⟨.type "super",none,.fields #[r 698,r 698,r 698],#[]⟩
def o745:Obj:=⟨.type "builtin_function_or_method",none,.fields #[.builtin "object.__init_subclass__",r 698],#[]⟩
def o746:=tu []
def o747:=nf []
def o748:=tu [.str "rule" 1095,.str "deeds" 1096,.str "row" 1097]
def o749:=tu []
def o750:=nw "keeps" (tp 50) 0 .none .none
def o751:=co [.str "keeps" 1092,.str "keeps" 1093,cp 1094,i0 344,i0 3,i0 0,i0 0,i0 3,r 701,.bool true,i0 181,r 702,.none,r 703,r 704,r 705,i0 1098,i0 344,cp 1099]
def o752:=fw "keeps" (tp 50) 3 zab (r 706)
def T21 (P:Params):BT:=ns (T20 P) [(3,o707 P),(12,o708),(466,o709),(665,o710),(666,o711),(667,o712 P),(668,o713),(669,o714),(670,o715),(671,o716),(672,o717),(673,o718),(674,o719),(675,o720),(676,o721),(677,o722),(678,o723),(679,o724),(680,o725),(681,o726),(682,o727),(683,o728),(684,o729),(685,o730),(686,o731),(687,o732),(688,o733),(689,o734),(690,o735),(691,o736),(692,o737),(693,o738),(694,o739),(695,o740),(696,o741),(697,o742 P),(698,o743),(699,o744),(700,o745),(701,o746),(702,o747),(703,o748),(704,o749),(705,o750),(706,o751),(707,o752)]
theorem pc21:Hd.Pc pp env T20 665 1046 T21 708 1103 375 [tp 49,tp 50,tp 51] ⟨313,0,320,50⟩ ⟨346,0,346,8⟩:=by
 intro w
 kernel_rfl
def g45 (P:Params):List DictEntry:=g42 P++[en P "_law_mixed" 1111 (.ref 714),en P "_law_cell_at" 1119 (.ref 721),en P "_law_names_by" 1125 (.ref 726),en P "_law_deeds_by" 1131 (.ref 731),en P "_law_rule_of" 1138 (.ref 738),en P "_law_drawn" 1149 (.ref 745),en P "_law_two_deeds" 1158 (.ref 752),en P "_law_kind" 1166 (.ref 759),en P "_law_made" 1174 (.ref 766),en P "_law_all" 1182 (.ref 773),en P "_law_asked" 1193 (.ref 780),en P "_law_deep" 1202 (.ref 787),en P "_law_strange" 1210 (.ref 794)]
def o753 (P:Params):Obj:=⟨.type "dict",none,.dict ⟨en P "__name__" 165 zad::g45 P⟩ 67,#[]⟩
def o754:=nf [i0 1,i0 0,r 20,i0 5,i0 0,r 27,i0 7,i0 0,r 40,i0 9,i0 0,r 52,i0 11,i0 0,r 64,i0 13,i0 0,r 76,i0 15,i0 0,r 88,i0 17,i0 0,r 100,i0 24,i0 0,r 110,i0 29,i0 0,r 117,i0 39,i0 0,r 124,i0 46,i0 0,r 131,i0 51,i0 0,r 138,i0 84,i0 0,r 209,i0 91,i0 0,r 216,i0 95,i0 0,r 223,i0 104,i0 0,r 230,i0 167,i0 0,r 327,i0 181,i0 0,r 334,i0 185,i0 0,r 339,i0 187,i0 0,r 344,i0 190,i0 0,r 349,i0 192,i0 0,r 356,i0 197,i0 0,r 363,i0 231,i0 0,r 434,i0 245,i0 0,r 441,i0 247,i0 0,r 448,i0 254,i0 0,r 476,i0 264,i0 0,r 509,i0 279,i0 0,r 540,i0 289,i0 0,r 566,i0 297,i0 0,r 592,i0 305,i0 0,r 618,i0 313,i0 0,r 644,i0 321,i0 0,r 670,i0 344,i0 0,r 706,i0 347,i0 0,r 713,i0 350,i0 0,r 720,i0 354,i0 0,r 725,i0 358,i0 0,r 730,i0 364,i0 0,r 737,i0 376,i0 0,r 744,i0 385,i0 0,r 751,i0 390,i0 0,r 758,i0 395,i0 0,r 765,i0 401,i0 0,r 772,i0 407,i0 0,r 779,i0 420,i0 0,r 786,i0 424,i0 0,r 793]
def o755:=tu []
def o756:=nf []
def o757:=tu [.str "_law_cell" 1106,.str "_law_k" 1107,.str "_law_one" 1108]
def o758:=tu []
def o759:=nw "_law_mixed" (tp 52) 0 .none .none
def o760:=co [.str "_law_mixed" 1103,.str "_law_mixed" 1104,cp 1105,i0 347,i0 2,i0 0,i0 0,i0 3,r 708,.bool true,i0 181,r 709,.none,r 710,r 711,r 712,i0 1109,i0 347,cp 1110]
def o761:=fw "_law_mixed" (tp 52) 3 zad (r 713)
def o762:=tu []
def o763:=nf []
def o764:=tu [.str "_law_script" 1115,.str "_law_k" 1116]
def o765:=tu []
def o766:=nw "_law_cell_at" (tp 53) 0 .none .none
def o767:=co [.str "_law_cell_at" 1112,.str "_law_cell_at" 1113,cp 1114,i0 350,i0 2,i0 0,i0 0,i0 3,r 715,.bool true,i0 181,r 716,.none,r 717,r 718,r 719,i0 1117,i0 350,cp 1118]
def o768:=fw "_law_cell_at" (tp 53) 3 zad (r 720)
def o769:=tu []
def o770:=nf []
def o771:=nw "_law_names_by" (tp 54) 0 .none .none
def o772:=co [.str "_law_names_by" 1120,.str "_law_names_by" 1121,cp 1122,i0 354,i0 2,i0 0,i0 0,i0 3,r 722,.bool true,i0 181,r 723,.none,.none,.none,r 724,i0 1123,i0 354,cp 1124]
def o773:=fw "_law_names_by" (tp 54) 3 zad (r 725)
def o774:=tu []
def o775:=nf []
def o776:=nw "_law_deeds_by" (tp 55) 0 .none .none
def o777:=co [.str "_law_deeds_by" 1126,.str "_law_deeds_by" 1127,cp 1128,i0 358,i0 1,i0 0,i0 0,i0 3,r 727,.bool true,i0 181,r 728,.none,.none,.none,r 729,i0 1129,i0 358,cp 1130]
def o778:=fw "_law_deeds_by" (tp 55) 3 zad (r 730)
def o779:=tu []
def o780:=nf []
def o781:=tu [.str "_law_row" 1135]
def o782:=tu []
def o783:=nw "_law_rule_of" (tp 56) 0 .none .none
def o784:=co [.str "_law_rule_of" 1132,.str "_law_rule_of" 1133,cp 1134,i0 364,i0 1,i0 0,i0 0,i0 3,r 732,.bool true,i0 181,r 733,.none,r 734,r 735,r 736,i0 1136,i0 364,cp 1137]
def o785:=fw "_law_rule_of" (tp 56) 3 zad (r 737)
def o786:=tu []
def o787:=nf []
def o788:=tu [.str "_law_cell" 1142,.str "_law_names" 1143,.str "_law_word" 1144,.str "_law_one" 1145,.str "_law_other" 1146]
def o789:=tu []
def o790:=nw "_law_drawn" (tp 57) 0 .none .none
def o791:=co [.str "_law_drawn" 1139,.str "_law_drawn" 1140,cp 1141,i0 376,i0 2,i0 0,i0 0,i0 3,r 739,.bool true,i0 181,r 740,.none,r 741,r 742,r 743,i0 1147,i0 376,cp 1148]
def o792:=fw "_law_drawn" (tp 57) 3 zad (r 744)
def o793:=tu []
def o794:=nf []
def o795:=tu [.str "_law_cell" 1153,.str "_law_names" 1154,.str "_law_free" 1155]
def o796:=tu []
def o797:=nw "_law_two_deeds" (tp 58) 0 .none .none
def o798:=co [.str "_law_two_deeds" 1150,.str "_law_two_deeds" 1151,cp 1152,i0 385,i0 1,i0 0,i0 0,i0 3,r 746,.bool true,i0 181,r 747,.none,r 748,r 749,r 750,i0 1156,i0 385,cp 1157]
def o799:=fw "_law_two_deeds" (tp 58) 3 zad (r 751)
def o800:=tu []
def o801:=nf []
def o802:=tu [.str "_law_e" 1162,.str "_law_some" 1163]
def o803:=tu []
def o804:=nw "_law_kind" (tp 59) 0 .none .none
def o805:=co [.str "_law_kind" 1159,.str "_law_kind" 1160,cp 1161,i0 390,i0 1,i0 0,i0 0,i0 3,r 753,.bool true,i0 181,r 754,.none,r 755,r 756,r 757,i0 1164,i0 390,cp 1165]
def o806:=fw "_law_kind" (tp 59) 3 zad (r 758)
def o807:=tu []
def o808:=nf []
def o809:=tu [.str "_law_words" 1170,.str "_law_e" 1171]
def o810:=tu []
def o811:=nw "_law_made" (tp 60) 0 .none .none
def o812:=co [.str "_law_made" 1167,.str "_law_made" 1168,cp 1169,i0 395,i0 1,i0 0,i0 0,i0 3,r 760,.bool true,i0 181,r 761,.none,r 762,r 763,r 764,i0 1172,i0 395,cp 1173]
def o813:=fw "_law_made" (tp 60) 3 zad (r 765)
def o814:=tu []
def o815:=nf []
def o816:=tu [.str "_law_rules" 1178,.str "_law_e" 1179]
def o817:=tu []
def o818:=nw "_law_all" (tp 61) 0 .none .none
def o819:=co [.str "_law_all" 1175,.str "_law_all" 1176,cp 1177,i0 401,i0 1,i0 0,i0 0,i0 3,r 767,.bool true,i0 181,r 768,.none,r 769,r 770,r 771,i0 1180,i0 401,cp 1181]
def o820:=fw "_law_all" (tp 61) 3 zad (r 772)
def o821:=tu []
def o822:=nf []
def o823:=tu [.str "_law_rule" 1186,.str "_law_deeds" 1187,.str "_law_row" 1188,.str "_law_found" 1189,.str "_law_e" 1190]
def o824:=tu []
def o825:=nw "_law_asked" (tp 62) 0 .none .none
def o826:=co [.str "_law_asked" 1183,.str "_law_asked" 1184,cp 1185,i0 407,i0 3,i0 0,i0 0,i0 3,r 774,.bool true,i0 181,r 775,.none,r 776,r 777,r 778,i0 1191,i0 407,cp 1192]
def o827:=fw "_law_asked" (tp 62) 3 zad (r 779)
def o828:=tu []
def o829:=nf []
def o830:=tu [.str "_law_rule" 1197,.str "_law_many" 1198,.str "_law_k" 1199]
def o831:=tu []
def o832:=nw "_law_deep" (tp 63) 0 .none .none
def o833:=co [.str "_law_deep" 1194,.str "_law_deep" 1195,cp 1196,i0 420,i0 2,i0 0,i0 0,i0 3,r 781,.bool true,i0 181,r 782,.none,r 783,r 784,r 785,i0 1200,i0 420,cp 1201]
def o834:=fw "_law_deep" (tp 63) 3 zad (r 786)
def o835:=tu []
def o836:=nf []
def o837:=tu [.str "_law_words" 1206,.str "_law_cell" 1207]
def o838:=tu []
def o839:=nw "_law_strange" (tp 64) 0 .none .none
def o840:=co [.str "_law_strange" 1203,.str "_law_strange" 1204,cp 1205,i0 424,i0 2,i0 0,i0 0,i0 3,r 788,.bool true,i0 181,r 789,.none,r 790,r 791,r 792,i0 1208,i0 424,cp 1209]
def o841:=fw "_law_strange" (tp 64) 3 zad (r 793)
def T22 (P:Params):BT:=ns (T21 P) [(3,o753 P),(12,o754),(708,o755),(709,o756),(710,o757),(711,o758),(712,o759),(713,o760),(714,o761),(715,o762),(716,o763),(717,o764),(718,o765),(719,o766),(720,o767),(721,o768),(722,o769),(723,o770),(724,o771),(725,o772),(726,o773),(727,o774),(728,o775),(729,o776),(730,o777),(731,o778),(732,o779),(733,o780),(734,o781),(735,o782),(736,o783),(737,o784),(738,o785),(739,o786),(740,o787),(741,o788),(742,o789),(743,o790),(744,o791),(745,o792),(746,o793),(747,o794),(748,o795),(749,o796),(750,o797),(751,o798),(752,o799),(753,o800),(754,o801),(755,o802),(756,o803),(757,o804),(758,o805),(759,o806),(760,o807),(761,o808),(762,o809),(763,o810),(764,o811),(765,o812),(766,o813),(767,o814),(768,o815),(769,o816),(770,o817),(771,o818),(772,o819),(773,o820),(774,o821),(775,o822),(776,o823),(777,o824),(778,o825),(779,o826),(780,o827),(781,o828),(782,o829),(783,o830),(784,o831),(785,o832),(786,o833),(787,o834),(788,o835),(789,o836),(790,o837),(791,o838),(792,o839),(793,o840),(794,o841)]
theorem pc22:Hd.Pc pp env T21 708 1103 T22 795 1211 391 [tp 52,tp 53,tp 54,tp 55,tp 56,tp 57,tp 58,tp 59,tp 60,tp 61,tp 62,tp 63,tp 64] ⟨346,0,346,8⟩ ⟨424,0,427,39⟩:=by
 intro w
 kernel_rfl
def g46 (P:Params):List DictEntry:=g45 P++[en P "_law_great" 1216 (.ref 799),en P "_law_when_made" 1228 (.ref 806),en P "_law_by_deeds" 1238 (.ref 813),en P "_law_alls" 1250 (.ref 820),en P "law" 1264 (.ref 827)]
def o842 (P:Params):Obj:=⟨.type "dict",none,.dict ⟨en P "__name__" 165 zad::g46 P⟩ 72,#[]⟩
def o843:=nf [i0 1,i0 0,r 20,i0 5,i0 0,r 27,i0 7,i0 0,r 40,i0 9,i0 0,r 52,i0 11,i0 0,r 64,i0 13,i0 0,r 76,i0 15,i0 0,r 88,i0 17,i0 0,r 100,i0 24,i0 0,r 110,i0 29,i0 0,r 117,i0 39,i0 0,r 124,i0 46,i0 0,r 131,i0 51,i0 0,r 138,i0 84,i0 0,r 209,i0 91,i0 0,r 216,i0 95,i0 0,r 223,i0 104,i0 0,r 230,i0 167,i0 0,r 327,i0 181,i0 0,r 334,i0 185,i0 0,r 339,i0 187,i0 0,r 344,i0 190,i0 0,r 349,i0 192,i0 0,r 356,i0 197,i0 0,r 363,i0 231,i0 0,r 434,i0 245,i0 0,r 441,i0 247,i0 0,r 448,i0 254,i0 0,r 476,i0 264,i0 0,r 509,i0 279,i0 0,r 540,i0 289,i0 0,r 566,i0 297,i0 0,r 592,i0 305,i0 0,r 618,i0 313,i0 0,r 644,i0 321,i0 0,r 670,i0 344,i0 0,r 706,i0 347,i0 0,r 713,i0 350,i0 0,r 720,i0 354,i0 0,r 725,i0 358,i0 0,r 730,i0 364,i0 0,r 737,i0 376,i0 0,r 744,i0 385,i0 0,r 751,i0 390,i0 0,r 758,i0 395,i0 0,r 765,i0 401,i0 0,r 772,i0 407,i0 0,r 779,i0 420,i0 0,r 786,i0 424,i0 0,r 793,i0 428,i0 0,r 798,i0 430,i0 0,r 805,i0 440,i0 0,r 812,i0 448,i0 0,r 819,i0 461,i0 0,r 826]
def o844:=tu []
def o845:=nf []
def o846:=nw "_law_great" (tp 65) 0 .none .none
def o847:=co [.str "_law_great" 1211,.str "_law_great" 1212,cp 1213,i0 428,i0 1,i0 0,i0 0,i0 3,r 795,.bool true,i0 181,r 796,.none,.none,.none,r 797,i0 1214,i0 428,cp 1215]
def o848:=fw "_law_great" (tp 65) 3 zad (r 798)
def o849:=tu []
def o850:=nf []
def o851:=tu [.str "_law_names" 1220,.str "_law_cell" 1221,.str "_law_same" 1222,.str "_law_twice" 1223,.str "_law_far" 1224,.str "_law_odd" 1225]
def o852:=tu []
def o853:=nw "_law_when_made" (tp 66) 0 .none .none
def o854:=co [.str "_law_when_made" 1217,.str "_law_when_made" 1218,cp 1219,i0 430,i0 2,i0 0,i0 0,i0 3,r 800,.bool true,i0 181,r 801,.none,r 802,r 803,r 804,i0 1226,i0 430,cp 1227]
def o855:=fw "_law_when_made" (tp 66) 3 zad (r 805)
def o856:=tu []
def o857:=nf []
def o858:=tu [.str "_law_rule" 1232,.str "_law_strange_here" 1233,.str "_law_words" 1234,.str "_law_deeds" 1235]
def o859:=tu []
def o860:=nw "_law_by_deeds" (tp 67) 0 .none .none
def o861:=co [.str "_law_by_deeds" 1229,.str "_law_by_deeds" 1230,cp 1231,i0 440,i0 4,i0 0,i0 0,i0 3,r 807,.bool true,i0 181,r 808,.none,r 809,r 810,r 811,i0 1236,i0 440,cp 1237]
def o862:=fw "_law_by_deeds" (tp 67) 3 zad (r 812)
def o863:=tu []
def o864:=nf []
def o865:=tu [.str "_law_rule" 1242,.str "_law_strange_here" 1243,.str "_law_deeds" 1244,.str "_law_names" 1245,.str "_law_cell" 1246,.str "_law_great_here" 1247]
def o866:=tu []
def o867:=nw "_law_alls" (tp 68) 0 .none .none
def o868:=co [.str "_law_alls" 1239,.str "_law_alls" 1240,cp 1241,i0 448,i0 5,i0 0,i0 0,i0 3,r 814,.bool true,i0 181,r 815,.none,r 816,r 817,r 818,i0 1248,i0 448,cp 1249]
def o869:=fw "_law_alls" (tp 68) 3 zad (r 819)
def o870:=tu []
def o871:=nf []
def o872:=tu [.str "_law_script" 1254,.str "_law_names" 1255,.str "_law_free" 1256,.str "_law_words" 1257,.str "_law_cell" 1258,.str "_law_deeds" 1259,.str "_law_rule" 1260,.str "_law_strange_here" 1261]
def o873:=tu []
def o874:=nw "law" (tp 69) 0 .none .none
def o875:=co [.str "law" 1251,.str "law" 1252,cp 1253,i0 461,i0 1,i0 0,i0 0,i0 3,r 821,.bool true,i0 181,r 822,.none,r 823,r 824,r 825,i0 1262,i0 461,cp 1263]
def o876:=fw "law" (tp 69) 3 zad (r 826)
def T23 (P:Params):BT:=ns (T22 P) [(3,o842 P),(12,o843),(795,o844),(796,o845),(797,o846),(798,o847),(799,o848),(800,o849),(801,o850),(802,o851),(803,o852),(804,o853),(805,o854),(806,o855),(807,o856),(808,o857),(809,o858),(810,o859),(811,o860),(812,o861),(813,o862),(814,o863),(815,o864),(816,o865),(817,o866),(818,o867),(819,o868),(820,o869),(821,o870),(822,o871),(823,o872),(824,o873),(825,o874),(826,o875),(827,o876)]
theorem pc23:Hd.Pc pp env T22 795 1211 T23 828 1265 163 [tp 65,tp 66,tp 67,tp 68,tp 69] ⟨424,0,427,39⟩ ⟨461,0,472,129⟩:=by
 intro w
 kernel_rfl
def Hf (P:Params):Heap:=⟨Array.mk [boot_o_0 P,boot_o_1 P,boot_o_2 P,o842 P,boot_o_4 P,boot_o_5 P,boot_o_6 P,boot_o_7 P,boot_o_8 P,boot_o_9 P,boot_o_10 P,o0,o843,o2,o3,o6,o7,o8,o9,o10,o11,o12,o13,o14,o15 P,o16,o17,o18,o19,o20,o21 P,o103,o23,o24,o25,o29,o30,o31 P,o32,o33,o34,o35,o36,o37 P,o38,o39,o40,o44,o45,o46 P,o47,o48,o49,o50,o51,o52 P,o53,o54,o55,o59,o60,o61 P,o62,o63,o64,o65,o66,o67 P,o68,o69,o70,o74,o75,o76 P,o77,o78,o79,o80,o81,o82 P,o83,o84,o85,o89,o90,o91 P,o92,o93,o94,o95,o96,o97 P,o98,o99,o100,o104,o105,o106 P,o107,o108,o109,o110,o111,o112 P,o113,o114,o115,o116,o117,o118,o119,o120,o121,o122,o123,o124,o125,o126,o127,o128,o129,o130,o131,o132,o133,o134,o135,o136,o137,o138,o139,o140,o141,o144,o145,o146 P,o147,o148,o149,o150,o151,o152,o153,o154,o155,o156,o157,o158,o159,o160,o161,o162,o163,o164,o165,o166,o167,o168,o169,o170,o171,o172,o173,o174,o175,o176,o177,o178,o179,o180,o181,o182,o183,o184,o185,o186,o187,o188,o189,o190,o191,o192,o193,o194,o195,o196,o197,o198,o199,o200,o201,o202,o203,o204,o205,o206,o207,o208,o209 P,o210,o211,o212,o213,o214,o217,o218,o219,o220,o221,o222,o223,o224,o225,o226,o227,o228,o229,o230,o231,o232,o233,o234,o235,o236,o237,o240,o241,o242 P,o243,o244,o245,o246,o247,o248,o249,o250,o251,o252,o253,o254,o255,o256,o257,o258,o259,o260,o261,o262,o263,o264,o265,o266,o267,o268,o269,o270,o271,o272,o273,o274,o275,o276,o277,o278,o279,o280,o281,o282,o283,o284,o285,o286,o287,o288,o289,o290,o291,o292,o293,o294,o295,o296,o297,o298,o299,o300,o301,o302,o303,o304,o305,o306,o307,o308,o309,o310,o311,o312,o313,o314,o315,o316,o317,o318,o319,o320,o321,o322,o323,o324,o325,o326,o327,o328,o329,o330,o331 P,o332,o333,o334,o335,o336,o339,o340,o341,o342,o343,o344,o345,o346,o347,o348,o349,o350,o351,o352,o353,o354,o355,o356,o357,o358,o359,o360,o361,o362,o363,o364,o365,o366,o367,o368,o369,o370,o371,o372,o373,o374,o377,o378,o379 P,o380,o381,o382,o383,o384,o385,o386,o387,o388,o389,o390,o391,o392,o393,o394,o395,o396,o397,o398,o399,o400,o401,o402,o403,o404,o405,o406,o407,o408,o409,o410,o411,o412,o413,o414,o415,o416,o417,o418,o419,o420,o421,o422,o423,o424,o425,o426,o427,o428,o429,o430,o431,o432,o433,o434,o435,o436,o437,o438,o439,o440,o441,o442,o443,o444 P,o445,o446,o447,o448,o449,o452,o453,o454,o455,o456,o457,o458,o459,o460,o461,o462,o463,o464,o465,o466 P,o467,o468,o469,o470,o471,o472,o473,o474,o475,o476,o477,o478,o479,o480,o481,o482,o483,o484,o485,o486 P,o709,o488,o489,o490,o491,o495,o496,o497 P,o498,o499,o500,o501,o502,o503,o504,o505,o506,o507,o508,o509,o510,o511,o512,o513,o514,o515,o516,o517,o518,o519,o520,o521,o522,o523,o524 P,o525,o526,o527,o531,o532,o533 P,o534,o535,o536,o537,o538,o539,o540,o541,o542,o543,o544,o545,o546,o547,o548,o549,o550,o551,o552,o553,o554,o555,o556,o557,o558 P,o559,o560,o561,o565,o566,o567 P,o568,o569,o570,o571,o572,o573,o574,o575,o576,o577,o578,o579,o580,o581,o582,o583,o584,o585,o586,o587 P,o680,o589,o590,o594,o595,o596 P,o597,o598,o599,o600,o601,o602,o603,o604,o605,o606,o607,o608,o609,o610,o611,o612,o613,o614,o615,o616 P,o617,o618,o619,o623,o624,o625 P,o626,o627,o628,o629,o630,o631,o632,o633,o634,o635,o636,o637,o638,o639,o640,o641,o642,o643,o644,o645 P,o646,o647,o648,o652,o653,o654 P,o655,o656,o657,o658,o659,o660,o661,o662,o663,o664,o665,o666,o667,o668,o669,o670,o671,o672,o673,o674 P,o675,o676,o677,o681,o682,o683 P,o684,o685,o686,o687,o688,o689,o690,o691,o692,o693,o694,o695,o696,o697,o698,o699,o700,o701,o702,o703 P,o704,o705,o706,o710,o711,o712 P,o713,o714,o715,o716,o717,o718,o719,o720,o721,o722,o723,o724,o725,o726,o727,o728,o729,o730,o731,o732,o733,o734,o735,o736,o737,o738,o739,o740,o741,o742 P,o743,o744,o745,o746,o747,o748,o749,o750,o751,o752,o755,o756,o757,o758,o759,o760,o761,o762,o763,o764,o765,o766,o767,o768,o769,o770,o771,o772,o773,o774,o775,o776,o777,o778,o779,o780,o781,o782,o783,o784,o785,o786,o787,o788,o789,o790,o791,o792,o793,o794,o795,o796,o797,o798,o799,o800,o801,o802,o803,o804,o805,o806,o807,o808,o809,o810,o811,o812,o813,o814,o815,o816,o817,o818,o819,o820,o821,o822,o823,o824,o825,o826,o827,o828,o829,o830,o831,o832,o833,o834,o835,o836,o837,o838,o839,o840,o841,o844,o845,o846,o847,o848,o849,o850,o851,o852,o853,o854,o855,o856,o857,o858,o859,o860,o861,o862,o863,o864,o865,o866,o867,o868,o869,o870,o871,o872,o873,o874,o875,o876],Hd.lf⟩
theorem fin:Hd.Fi pp env T23 828 1265 Hf 1265 2 ⟨461,0,472,129⟩:=by
 intro w
 kernel_rfl
def vw:Program:={ pp with main:={ pp.main with body:=[tp 0,tp 2,tp 3,tp 4,tp 5,tp 6,tp 7,tp 8,tp 10,tp 11,tp 12,tp 13,tp 14,tp 15,tp 16,tp 17,tp 18,tp 20,tp 21,tp 22,tp 23,tp 24,tp 26,tp 27,tp 29,tp 30,tp 31,tp 32,tp 33,tp 34,tp 35,tp 37,tp 38,tp 39,tp 40,tp 41,tp 42,tp 43,tp 44,tp 45,tp 46,tp 47,tp 48,tp 49,tp 50,tp 52,tp 53,tp 54,tp 55,tp 56,tp 57,tp 58,tp 59,tp 60,tp 61,tp 62,tp 63,tp 64,tp 65,tp 66,tp 67,tp 68,tp 69] } }
def kk (P:Params):Frag:=
 (nat_lit 2,boot_o_2 P)::(nat_lit 3,o842 P)::(nat_lit 15,o6)::(nat_lit 17,o8)::(nat_lit 18,o9)::(nat_lit 20,o11)::(nat_lit 21,o12)::(nat_lit 22,o13)::(nat_lit 29,o20)::(nat_lit 30,o21 P)::(nat_lit 31,o103)::(nat_lit 32,o23)::(nat_lit 35,o29)::(nat_lit 42,o36)::(nat_lit 43,o37 P)::(nat_lit 44,o38)::(nat_lit 47,o44)::(nat_lit 54,o51)::(nat_lit 55,o52 P)::(nat_lit 56,o53)::(nat_lit 59,o59)::(nat_lit 66,o66)::(nat_lit 67,o67 P)::(nat_lit 68,o68)::(nat_lit 71,o74)::(nat_lit 78,o81)::(nat_lit 79,o82 P)::(nat_lit 80,o83)::(nat_lit 83,o89)::(nat_lit 90,o96)::(nat_lit 91,o97 P)::(nat_lit 92,o98)::(nat_lit 95,o104)::(nat_lit 102,o111)::(nat_lit 103,o112 P)::(nat_lit 104,o113)::(nat_lit 107,o116)::(nat_lit 110,o119)::(nat_lit 111,o120)::(nat_lit 112,o121)::(nat_lit 114,o123)::(nat_lit 115,o124)::(nat_lit 117,o126)::(nat_lit 118,o127)::(nat_lit 119,o128)::(nat_lit 121,o130)::(nat_lit 122,o131)::(nat_lit 124,o133)::(nat_lit 125,o134)::(nat_lit 126,o135)::(nat_lit 128,o137)::(nat_lit 129,o138)::(nat_lit 131,o140)::(nat_lit 132,o141)::(nat_lit 140,o151)::(nat_lit 141,o152)::(nat_lit 143,o154)::(nat_lit 144,o155)::(nat_lit 146,o157)::(nat_lit 147,o158)::(nat_lit 148,o159)::(nat_lit 150,o161)::(nat_lit 151,o162)::(nat_lit 153,o164)::(nat_lit 154,o165)::(nat_lit 155,o166)::(nat_lit 157,o168)::(nat_lit 158,o169)::(nat_lit 160,o171)::(nat_lit 161,o172)::(nat_lit 162,o173)::(nat_lit 164,o175)::(nat_lit 165,o176)::(nat_lit 167,o178)::(nat_lit 168,o179)::(nat_lit 169,o180)::(nat_lit 171,o182)::(nat_lit 172,o183)::(nat_lit 174,o185)::(nat_lit 175,o186)::(nat_lit 176,o187)::(nat_lit 178,o189)::(nat_lit 179,o190)::(nat_lit 181,o192)::(nat_lit 182,o193)::(nat_lit 183,o194)::(nat_lit 185,o196)::(nat_lit 186,o197)::(nat_lit 188,o199)::(nat_lit 189,o200)::(nat_lit 190,o201)::(nat_lit 192,o203)::(nat_lit 193,o204)::(nat_lit 195,o206)::(nat_lit 196,o207)::(nat_lit 197,o208)::(nat_lit 198,o209 P)::(nat_lit 199,o210)::(nat_lit 200,o211)::(nat_lit 201,o212)::(nat_lit 204,o217)::(nat_lit 206,o219)::(nat_lit 207,o220)::(nat_lit 209,o222)::(nat_lit 210,o223)::(nat_lit 211,o224)::(nat_lit 213,o226)::(nat_lit 214,o227)::(nat_lit 216,o229)::(nat_lit 217,o230)::(nat_lit 218,o231)::(nat_lit 220,o233)::(nat_lit 221,o234)::(nat_lit 223,o236)::(nat_lit 224,o237)::(nat_lit 232,o247)::(nat_lit 233,o248)::(nat_lit 236,o251)::(nat_lit 237,o252)::(nat_lit 238,o253)::(nat_lit 240,o255)::(nat_lit 241,o256)::(nat_lit 243,o258)::(nat_lit 244,o259)::(nat_lit 245,o260)::(nat_lit 247,o262)::(nat_lit 248,o263)::(nat_lit 250,o265)::(nat_lit 251,o266)::(nat_lit 252,o267)::(nat_lit 254,o269)::(nat_lit 255,o270)::(nat_lit 257,o272)::(nat_lit 258,o273)::(nat_lit 259,o274)::(nat_lit 261,o276)::(nat_lit 262,o277)::(nat_lit 264,o279)::(nat_lit 265,o280)::(nat_lit 266,o281)::(nat_lit 268,o283)::(nat_lit 269,o284)::(nat_lit 271,o286)::(nat_lit 272,o287)::(nat_lit 273,o288)::(nat_lit 275,o290)::(nat_lit 276,o291)::(nat_lit 278,o293)::(nat_lit 279,o294)::(nat_lit 280,o295)::(nat_lit 282,o297)::(nat_lit 283,o298)::(nat_lit 285,o300)::(nat_lit 286,o301)::(nat_lit 287,o302)::(nat_lit 289,o304)::(nat_lit 290,o305)::(nat_lit 292,o307)::(nat_lit 293,o308)::(nat_lit 294,o309)::(nat_lit 296,o311)::(nat_lit 297,o312)::(nat_lit 299,o314)::(nat_lit 300,o315)::(nat_lit 301,o316)::(nat_lit 303,o318)::(nat_lit 304,o319)::(nat_lit 306,o321)::(nat_lit 307,o322)::(nat_lit 308,o323)::(nat_lit 310,o325)::(nat_lit 311,o326)::(nat_lit 313,o328)::(nat_lit 314,o329)::(nat_lit 315,o330)::(nat_lit 316,o331 P)::(nat_lit 317,o332)::(nat_lit 318,o333)::(nat_lit 319,o334)::(nat_lit 322,o339)::(nat_lit 324,o341)::(nat_lit 325,o342)::(nat_lit 327,o344)::(nat_lit 328,o345)::(nat_lit 329,o346)::(nat_lit 331,o348)::(nat_lit 332,o349)::(nat_lit 334,o351)::(nat_lit 335,o352)::(nat_lit 336,o353)::(nat_lit 339,o356)::(nat_lit 340,o357)::(nat_lit 341,o358)::(nat_lit 344,o361)::(nat_lit 345,o362)::(nat_lit 346,o363)::(nat_lit 349,o366)::(nat_lit 350,o367)::(nat_lit 351,o368)::(nat_lit 353,o370)::(nat_lit 354,o371)::(nat_lit 356,o373)::(nat_lit 357,o374)::(nat_lit 365,o384)::(nat_lit 367,o386)::(nat_lit 368,o387)::(nat_lit 370,o389)::(nat_lit 371,o390)::(nat_lit 372,o391)::(nat_lit 374,o393)::(nat_lit 375,o394)::(nat_lit 377,o396)::(nat_lit 378,o397)::(nat_lit 379,o398)::(nat_lit 381,o400)::(nat_lit 382,o401)::(nat_lit 384,o403)::(nat_lit 385,o404)::(nat_lit 386,o405)::(nat_lit 388,o407)::(nat_lit 389,o408)::(nat_lit 391,o410)::(nat_lit 392,o411)::(nat_lit 393,o412)::(nat_lit 396,o415)::(nat_lit 397,o416)::(nat_lit 398,o417)::(nat_lit 400,o419)::(nat_lit 401,o420)::(nat_lit 403,o422)::(nat_lit 404,o423)::(nat_lit 405,o424)::(nat_lit 407,o426)::(nat_lit 408,o427)::(nat_lit 410,o429)::(nat_lit 411,o430)::(nat_lit 412,o431)::(nat_lit 415,o434)::(nat_lit 416,o435)::(nat_lit 417,o436)::(nat_lit 419,o438)::(nat_lit 420,o439)::(nat_lit 422,o441)::(nat_lit 423,o442)::(nat_lit 424,o443)::(nat_lit 425,o444 P)::(nat_lit 426,o445)::(nat_lit 427,o446)::(nat_lit 428,o447)::(nat_lit 431,o452)::(nat_lit 434,o455)::(nat_lit 435,o456)::(nat_lit 436,o457)::(nat_lit 438,o459)::(nat_lit 439,o460)::(nat_lit 441,o462)::(nat_lit 442,o463)::(nat_lit 450,o471)::(nat_lit 452,o473)::(nat_lit 453,o474)::(nat_lit 455,o476)::(nat_lit 456,o477)::(nat_lit 457,o478)::(nat_lit 459,o480)::(nat_lit 460,o481)::(nat_lit 462,o483)::(nat_lit 463,o484)::(nat_lit 464,o485)::(nat_lit 465,o486 P)::(nat_lit 466,o709)::(nat_lit 467,o488)::(nat_lit 468,o489)::(nat_lit 471,o495)::(nat_lit 478,o502)::(nat_lit 480,o504)::(nat_lit 481,o505)::(nat_lit 483,o507)::(nat_lit 484,o508)::(nat_lit 485,o509)::(nat_lit 487,o511)::(nat_lit 488,o512)::(nat_lit 490,o514)::(nat_lit 491,o515)::(nat_lit 492,o516)::(nat_lit 494,o518)::(nat_lit 495,o519)::(nat_lit 497,o521)::(nat_lit 498,o522)::(nat_lit 499,o523)::(nat_lit 500,o524 P)::(nat_lit 501,o525)::(nat_lit 504,o531)::(nat_lit 511,o538)::(nat_lit 513,o540)::(nat_lit 514,o541)::(nat_lit 516,o543)::(nat_lit 517,o544)::(nat_lit 518,o545)::(nat_lit 520,o547)::(nat_lit 521,o548)::(nat_lit 523,o550)::(nat_lit 524,o551)::(nat_lit 525,o552)::(nat_lit 528,o555)::(nat_lit 529,o556)::(nat_lit 530,o557)::(nat_lit 531,o558 P)::(nat_lit 532,o559)::(nat_lit 535,o565)::(nat_lit 542,o572)::(nat_lit 544,o574)::(nat_lit 545,o575)::(nat_lit 547,o577)::(nat_lit 548,o578)::(nat_lit 549,o579)::(nat_lit 551,o581)::(nat_lit 552,o582)::(nat_lit 554,o584)::(nat_lit 555,o585)::(nat_lit 556,o586)::(nat_lit 557,o587 P)::(nat_lit 558,o680)::(nat_lit 561,o594)::(nat_lit 568,o601)::(nat_lit 570,o603)::(nat_lit 571,o604)::(nat_lit 573,o606)::(nat_lit 574,o607)::(nat_lit 575,o608)::(nat_lit 577,o610)::(nat_lit 578,o611)::(nat_lit 580,o613)::(nat_lit 581,o614)::(nat_lit 582,o615)::(nat_lit 583,o616 P)::(nat_lit 584,o617)::(nat_lit 587,o623)::(nat_lit 594,o630)::(nat_lit 596,o632)::(nat_lit 597,o633)::(nat_lit 599,o635)::(nat_lit 600,o636)::(nat_lit 601,o637)::(nat_lit 603,o639)::(nat_lit 604,o640)::(nat_lit 606,o642)::(nat_lit 607,o643)::(nat_lit 608,o644)::(nat_lit 609,o645 P)::(nat_lit 610,o646)::(nat_lit 613,o652)::(nat_lit 620,o659)::(nat_lit 622,o661)::(nat_lit 623,o662)::(nat_lit 625,o664)::(nat_lit 626,o665)::(nat_lit 627,o666)::(nat_lit 629,o668)::(nat_lit 630,o669)::(nat_lit 632,o671)::(nat_lit 633,o672)::(nat_lit 634,o673)::(nat_lit 635,o674 P)::(nat_lit 636,o675)::(nat_lit 639,o681)::(nat_lit 646,o688)::(nat_lit 648,o690)::(nat_lit 649,o691)::(nat_lit 651,o693)::(nat_lit 652,o694)::(nat_lit 653,o695)::(nat_lit 655,o697)::(nat_lit 656,o698)::(nat_lit 658,o700)::(nat_lit 659,o701)::(nat_lit 660,o702)::(nat_lit 661,o703 P)::(nat_lit 662,o704)::(nat_lit 665,o710)::(nat_lit 672,o717)::(nat_lit 674,o719)::(nat_lit 675,o720)::(nat_lit 677,o722)::(nat_lit 678,o723)::(nat_lit 679,o724)::(nat_lit 681,o726)::(nat_lit 682,o727)::(nat_lit 684,o729)::(nat_lit 685,o730)::(nat_lit 686,o731)::(nat_lit 689,o734)::(nat_lit 690,o735)::(nat_lit 691,o736)::(nat_lit 694,o739)::(nat_lit 695,o740)::(nat_lit 696,o741)::(nat_lit 697,o742 P)::(nat_lit 698,o743)::(nat_lit 701,o746)::(nat_lit 703,o748)::(nat_lit 704,o749)::(nat_lit 706,o751)::(nat_lit 707,o752)::(nat_lit 708,o755)::(nat_lit 710,o757)::(nat_lit 711,o758)::(nat_lit 713,o760)::(nat_lit 714,o761)::(nat_lit 715,o762)::(nat_lit 717,o764)::(nat_lit 718,o765)::(nat_lit 720,o767)::(nat_lit 721,o768)::(nat_lit 722,o769)::(nat_lit 725,o772)::(nat_lit 726,o773)::(nat_lit 727,o774)::(nat_lit 730,o777)::(nat_lit 731,o778)::(nat_lit 732,o779)::(nat_lit 734,o781)::(nat_lit 735,o782)::(nat_lit 737,o784)::(nat_lit 738,o785)::(nat_lit 739,o786)::(nat_lit 741,o788)::(nat_lit 742,o789)::(nat_lit 744,o791)::(nat_lit 745,o792)::(nat_lit 746,o793)::(nat_lit 748,o795)::(nat_lit 749,o796)::(nat_lit 751,o798)::(nat_lit 752,o799)::(nat_lit 753,o800)::(nat_lit 755,o802)::(nat_lit 756,o803)::(nat_lit 758,o805)::(nat_lit 759,o806)::(nat_lit 760,o807)::(nat_lit 762,o809)::(nat_lit 763,o810)::(nat_lit 765,o812)::(nat_lit 766,o813)::(nat_lit 767,o814)::(nat_lit 769,o816)::(nat_lit 770,o817)::(nat_lit 772,o819)::(nat_lit 773,o820)::(nat_lit 774,o821)::(nat_lit 776,o823)::(nat_lit 777,o824)::(nat_lit 779,o826)::(nat_lit 780,o827)::(nat_lit 781,o828)::(nat_lit 783,o830)::(nat_lit 784,o831)::(nat_lit 786,o833)::(nat_lit 787,o834)::(nat_lit 788,o835)::(nat_lit 790,o837)::(nat_lit 791,o838)::(nat_lit 793,o840)::(nat_lit 794,o841)::(nat_lit 795,o844)::(nat_lit 798,o847)::(nat_lit 799,o848)::(nat_lit 800,o849)::(nat_lit 802,o851)::(nat_lit 803,o852)::(nat_lit 805,o854)::(nat_lit 806,o855)::(nat_lit 807,o856)::(nat_lit 809,o858)::(nat_lit 810,o859)::(nat_lit 812,o861)::(nat_lit 813,o862)::(nat_lit 814,o863)::(nat_lit 816,o865)::(nat_lit 817,o866)::(nat_lit 819,o868)::(nat_lit 820,o869)::(nat_lit 821,o870)::(nat_lit 823,o872)::(nat_lit 824,o873)::(nat_lit 826,o875)::(nat_lit 827,o876)::[]
def kl:List Addr:=[2,3,15,17,18,20,21,22,29,30,31,32,35,42,43,44,47,54,55,56,59,66,67,68,71,78,79,80,83,90,91,92,95,102,103,104,107,110,111,112,114,115,117,118,119,121,122,124,125,126,128,129,131,132,140,141,143,144,146,147,148,150,151,153,154,155,157,158,160,161,162,164,165,167,168,169,171,172,174,175,176,178,179,181,182,183,185,186,188,189,190,192,193,195,196,197,198,199,200,201,204,206,207,209,210,211,213,214,216,217,218,220,221,223,224,232,233,236,237,238,240,241,243,244,245,247,248,250,251,252,254,255,257,258,259,261,262,264,265,266,268,269,271,272,273,275,276,278,279,280,282,283,285,286,287,289,290,292,293,294,296,297,299,300,301,303,304,306,307,308,310,311,313,314,315,316,317,318,319,322,324,325,327,328,329,331,332,334,335,336,339,340,341,344,345,346,349,350,351,353,354,356,357,365,367,368,370,371,372,374,375,377,378,379,381,382,384,385,386,388,389,391,392,393,396,397,398,400,401,403,404,405,407,408,410,411,412,415,416,417,419,420,422,423,424,425,426,427,428,431,434,435,436,438,439,441,442,450,452,453,455,456,457,459,460,462,463,464,465,466,467,468,471,478,480,481,483,484,485,487,488,490,491,492,494,495,497,498,499,500,501,504,511,513,514,516,517,518,520,521,523,524,525,528,529,530,531,532,535,542,544,545,547,548,549,551,552,554,555,556,557,558,561,568,570,571,573,574,575,577,578,580,581,582,583,584,587,594,596,597,599,600,601,603,604,606,607,608,609,610,613,620,622,623,625,626,627,629,630,632,633,634,635,636,639,646,648,649,651,652,653,655,656,658,659,660,661,662,665,672,674,675,677,678,679,681,682,684,685,686,689,690,691,694,695,696,697,698,701,703,704,706,707,708,710,711,713,714,715,717,718,720,721,722,725,726,727,730,731,732,734,735,737,738,739,741,742,744,745,746,748,749,751,752,753,755,756,758,759,760,762,763,765,766,767,769,770,772,773,774,776,777,779,780,781,783,784,786,787,788,790,791,793,794,795,798,799,800,802,803,805,806,807,809,810,812,813,814,816,817,819,820,821,823,824,826,827]
theorem kl_eq:∀ P,kl=(kk P).map (·.1):=by
 intro P
 kernel_rfl
abbrev hk:Hook:=kmHook kk kl kl_eq [418]
def xt (s:Shared):Bool:=xlAt vw [] s&&recOk (RowW.records (OpenRow.toRowW (OpenLaw.row PySem.Challenge.rw_roomward_k34_rules_refused))) s
theorem lk1:∀ w:World,(λos=>staticsOk (importedModules pp.main.body) (boot_heap w.params) (Hf w.params)&&namesBound pp (Hf w.params)&&gensDone (Hd.Sh Hf 1265 w os)&&laidKept (boot_heap w.params) (Hf w.params))=λ_=>true:=by
 intro w
 kernel_rfl
theorem lk2:∀ w:World,(λos=>Hd.fSeen vw [] (importedModules pp.main.body) xt true (Hd.Sh Hf 1265 w os))=λ_=>openGood vw []:=by
 intro w
 kernel_rfl
theorem lk3:∀ w:World,(λos=>hk.obs (Hd.Sh Hf 1265 w os))=λ_=>hk.val w:=by
 intro w
 kernel_rfl
theorem aNw:[tp 0,tp 1,tp 2]++([tp 3]++([tp 4]++([tp 5]++([tp 6]++([tp 7]++([tp 8,tp 9,tp 10,tp 11,tp 12,tp 13,tp 14,tp 15,tp 16,tp 17]++([tp 18]++([tp 19,tp 20,tp 21,tp 22,tp 23]++([tp 24]++([tp 25,tp 26,tp 27,tp 28,tp 29,tp 30,tp 31,tp 32,tp 33]++([tp 34]++([tp 35,tp 36,tp 37,tp 38,tp 39,tp 40,tp 41]++([tp 42]++([tp 43]++([tp 44]++([tp 45]++([tp 46]++([tp 47]++([tp 48]++([tp 49,tp 50,tp 51]++([tp 52,tp 53,tp 54,tp 55,tp 56,tp 57,tp 58,tp 59,tp 60,tp 61,tp 62,tp 63,tp 64]++([tp 65,tp 66,tp 67,tp 68,tp 69]++[]))))))))))))))))))))))=behindTheImports pp:=by
 kernel_rfl
theorem left:LeftO pp vw [] xt hk.obs hk.val 13742 true:=
 Hd.left_of (by kernel_rfl) (λs=>by kernel_rfl) (by decide) (by decide) (Hd.top_run pre blk aNw (pc1.run (pc2.run (pc3.run (pc4.run (pc5.run (pc6.run (pc7.run (pc8.run (pc9.run (pc10.run (pc11.run (pc12.run (pc13.run (pc14.run (pc15.run (pc16.run (pc17.run (pc18.run (pc19.run (pc20.run (pc21.run (pc22.run (pc23.run fin.run)))))))))))))))))))))))) lk1 lk2 lk3
end
end K34H
open PySem PySem.W PyProof.Rows
set_option maxRecDepth 100000 in
set_option maxHeartbeats 0 in
theorem PySem.Challenge.cw_roomward_k34_rules_refused_holds : PySem.Challenge.rw_roomward_k34_rules_refused.Holds := by
 w_on; o_law
 refine holds_open (q:=K34H.vw) (loose:=[]) (Xt:=K34H.xt) (XP:=XL K34H.vw [])
  (Yf:=Hook.obs (kmHook K34H.kk K34H.kl K34H.kl_eq [418])) (Ya:=Hook.val (kmHook K34H.kk K34H.kl K34H.kl_eq [418])) (YP:=Hook.says (kmHook K34H.kk K34H.kl K34H.kl_eq [418]))
  (N:=13742) K34H.left (Hook.of (kmHook K34H.kk K34H.kl K34H.kl_eq [418])) (Hook.keeps (kmHook K34H.kk K34H.kl K34H.kl_eq [418])) ?x XL.keeps (by rfl) (by rfl) (by rfl) ?f ?wr ?k1 ?ok ?b ?hw ?hc
 case x=>exact λs e=>xl_of s (Bool.and_eq_true_iff.mp e).1
 case f=>exact λs e=>recFacts_of (Bool.and_eq_true_iff.mp e).2
 case wr=>rfl
 case k1=>first
  | assumption
  | decide +kernel
 case ok=>decide +kernel
 case b=>exact⟨rfl,rfl,rfl,rfl,rfl,by decide +kernel⟩
 case hw=>w_witness2
 k_fill
 refine' K34.walk (cR:=422) (l:=PySem.Challenge.rw_roomward_k34_rules_refused) 418 rfl rfl (λw h Y=>⟨PySem.W.km_in_of Y,λp hp=>PySem.W.km_tabs_of Y p hp⟩) ?F ?hK
 case F=>
  intro w mg fa h KX G hmg
  refine' K34.all_mk KX G hmg ..
  any_goals first
   | exact⟨by k_is,L2.fun_mk (by k_is) (by k_is) (by k_is)⟩
   | exact⟨by k_is,L2.fun_mk (by k_is) (by k_is) (by k_is),by k_is⟩
   | exact⟨by k_is,by k_is,by k_is⟩
   | exact⟨by k_is,by k_is,by k_is,by k_is⟩
   | exact⟨⟨by k_is,by k_is,by k_is,by k_is⟩,show PySem.W.findIn _ _ _=some none by k_is,show PySem.W.findIn _ _ _=some none by k_is⟩
   | exact⟨⟨by k_is,by k_is,by k_is,by k_is⟩,show PySem.W.findIn _ _ _=some none by k_is,show PySem.W.findIn _ _ _=some none by k_is,show PySem.W.findIn _ _ _=some none by k_is,show PySem.W.findIn _ _ _=some none by k_is⟩
   | exact⟨⟨by k_is,by k_is,by k_is,by k_is⟩,show PySem.W.findIn _ _ _=some none by k_is,show PySem.W.findIn _ _ _=some none by k_is,show PySem.W.findIn _ _ _=some none by k_is,show PySem.W.findIn _ _ _=some none by k_is,show PySem.W.findIn _ _ _=some none by k_is⟩
   | exact⟨show PySem.W.excIn _ _ _ _=true by kernel_rfl,by k_is,by k_is,by k_is,by k_is,by k_is⟩
   | k_is
   | kernel_rfl
   | exact show PySem.W.findIn _ _ _=some none by k_is
   | exact show PySem.W.excIn _ _ _ _=true by kernel_rfl
 case hK=>
  intro w p hp;rw[List.mem_singleton.mp hp];exact⟨by kernel_rfl,by kernel_rfl⟩
import PyProof.Rows.All
import Wide.All
import OpenK.AllK
import Wide.FinOn
import Lean
import PyProof.EqAt
import PyProof.EqKinds
import PyProof.TupleCall
import PyProof.NeKinds
import PyProof.Rows.SetFrom
import PyProof.SetRoads
import PyProof.FactsAll.dict_keyiterator
import PyProof.DictIter
import PyProof.DictWalks
import KE.KDictSum
import PyProof.InstEq
import KE.KFmtOwn
import PyProof.ZipIter
import PyProof.Rows.ZipGen
import KE.KRevSl
import PyProof.SumWalk
import PyProof.FactsAll.NoneType_1
import PyProof.FactsAll.dict_4
import PyProof.DictValues
import KE.KDictList
import PySem.Challenge.RW_roomward_k23_made_one
set_option Elab.async false
set_option linter.all false
set_option maxRecDepth 100000
set_option maxHeartbeats 4000000
noncomputable section
namespace L2
open PySem PySem.Spec PySem.Calls PyProof.Rows PySem.W
abbrev xPn:=List (PySem.Addr×PySem.Obj)
abbrev xVP:=PySem.Value->PySem.Shared->Prop
abbrev xOP:=Option PySem.Value->PySem.Shared->Prop
abbrev xSO:=PySem.Str->Option PySem.Value
abbrev xLL:=List (List PySem.Str)
abbrev xAO:=Array (Option PySem.Value)
abbrev xAa:=@List.length_map
abbrev xAb:=@wpAny_bind
abbrev xAc:=@List.getElem?_eq_some_iff
abbrev xAd:=@PySem.W.Frag
abbrev xAe:=@wpAny_pure
abbrev xAf:=@Heap.get?_push_of_some
abbrev xAg:=@List.getElem?_map
abbrev xAh:=@List.getElem?_eq_getElem
abbrev xAi:=@Nat.le_refl
abbrev xAj:=@List.length_append
abbrev xAk:=@Heap.get?_push_size
abbrev xAl:=@PySem.W.mg_of
abbrev xAm:=@Heap.lt_size
abbrev xAn:=@List.map_append
abbrev xAo:=@List.mem_cons
abbrev xAp:=@of_decide_eq_true
abbrev xAq:=@Nat.lt_of_lt_of_le
abbrev xAr:=@Nat.le_trans
abbrev xAs:=@Bool.false_ne_true
abbrev xAt:=@List.length_take
abbrev xAu:=@List.mem_of_getElem?
abbrev xAv:=@decide_eq_true
abbrev xAw:=@List.size_toArray
abbrev xAx:=@Or.inl
abbrev xAy:=@if_neg
abbrev xAz:=@Nat.ne_of_lt
abbrev xBa:=@List.take_length
abbrev xBb:=@List.mem_singleton
abbrev xBc:=@List.mem_map
abbrev xBd:=@List.length_cons
abbrev xBe:=@if_pos
abbrev xBf:=@List.getElem?_append_left
abbrev xBg:=@absurd
abbrev xBh:=@List.getElem?_append_right
abbrev xBi:=@List.mem_cons_of_mem
abbrev xBj:=@decide_eq_false
abbrev xBk:=@List.mem_cons_self
abbrev xBl:=@List.take_succ
abbrev xBm:=@List.append_nil
abbrev xBn:=@List.all_eq_true
abbrev xBo:=@Array.length_toList
abbrev xBp:=@Option.some.inj
abbrev xBq:=@PySem.F.plainAttrs_list
abbrev xBr:=@PyProof.Rows.sortedS
abbrev xBs:=@List.mem_append_right
abbrev xBt:=@Nat.lt_of_le_of_lt
abbrev xBu:=@wpAny_newObj_type
abbrev xBv:=@List.length_range
abbrev xBw:=@Bool.and_eq_true
abbrev xBx:=@Array.getElem?_toList
abbrev xBy:=@PySem.W.mg_none_of
abbrev xBz:=@List.mem_filterMap
abbrev xCa:=@Nat.zero_le
abbrev xCb:=@Heap.SameBut.update
abbrev xCc:=@List.mem_filter
abbrev xCd:=@List.map_cons
abbrev xCe:=@List.getElem?_eq_none_iff
abbrev xCf:=@Heap.get?_update_self
abbrev xCg:=@Array.getElem?_eq_getElem
abbrev xCh:=@wpAny_call_entry
abbrev xCi:=@PySem.Spec.ltCps
abbrev xCk:=@List.getD_eq_getElem?_getD
abbrev xCl:=@wpAny_Call_Name_kw
abbrev xCm:=@Nat.lt_irrefl
abbrev xCn:=@PySem.F.type_list_append
abbrev xCo:=@PySem.F.slot_list_append
abbrev xCp:=@List.mem_append
abbrev xCq:=@List.length_nil
abbrev xCr:=@wpAny_mono
abbrev xCs:=@Bool.eq_false_iff
abbrev xCt:=@List.getElem_mem
abbrev xCu:=@wpAny_holding
abbrev xCv:=@Option.isSome_iff_exists
abbrev xCw:=@List.length_filter_le
abbrev xCx:=@List.length_filterMap_le
abbrev xCy:=@wpAny_setField
abbrev xCz:=@wpAny_seqItems
abbrev xDa:=@decide_eq_true_iff
abbrev xDb:=@PySem.W.kia_one
abbrev xDc:=@PyProof.Rows.callWith_type1
abbrev xDd:=@Calls.spliced_cons
abbrev xDe:=@List.mem_flatMap
abbrev xDf:=@beq_eq_false_iff_ne
abbrev xDg:=@Nat.sub_self
abbrev xDh:=@List.range_succ
abbrev xDi:=@List.filterMap_append
abbrev xDk:=@List.mem_append_left
abbrev xDl:=@codeAny_mono
abbrev xDm:=@List.mem_range
abbrev xDn:=@wpAny_setState_of
abbrev xDo:=@Int.toNat_natCast
abbrev xDp:=@wpAny_field
abbrev xDq:=@codeAny_builtin
abbrev xDr:=@List.find?_cons
abbrev xDs:=@Option.map_eq_some_iff
abbrev xDt:=@List.take_of_length_le
abbrev xDu:=@Array.getElem?_eq_none
abbrev xDv:=@wpAny_isInstance
abbrev xDw:=@Nat.le_of_lt
abbrev xDx:=@List.map_map
abbrev xDy:=@Int.zero_add
abbrev xDz:=@List.drop_eq_getElem_cons
abbrev xEa:=@Heap.size_push
abbrev xEb:=@PySem.F.slot_tuple_iterator_next
abbrev xEc:=@Bool.and_eq_true_iff
abbrev xEd:=@wpAny_truthy_bool
abbrev xEe:=@beq_iff_eq
abbrev xEf:=@List.pairwise_map
abbrev xEg:=@List.nodup_cons
abbrev xEh:=@List.flatten_cons
abbrev xEi:=@Bool.eq_iff_iff
abbrev xEj:=@Nat.ne_of_gt
abbrev xEk:=@List.replicate_zero
abbrev xEl:=@List.length_zipWith
abbrev xEm:=@wpAny_askSetting
abbrev xEn:=@Heap.get?_update_other
abbrev xEo:=@Calls.callWith_builtin
abbrev xEp:=@wpAny_setField_rec
abbrev xEq:=@wpAny_passesOwn
abbrev xEr:=@Nat.le_succ
abbrev xEs:=@List.nil_append
abbrev xEt:=@List.length_replicate
abbrev xEu:=@wpAny_pyIter_list
abbrev xEv:=@List.any_cons
abbrev xEw:=@Calls.spliced_nil
abbrev xEx:=@codeAny_call_builtin
abbrev xEy:=@beq_self_eq_true
abbrev xEz:=@List.any_eq_true
abbrev xFa:=@List.replicate_succ
abbrev xFb:=@List.length_reverse
abbrev xFc:=@wpAny_call
abbrev xFd:=@Nat.zero_add
abbrev xFe:=@List.Pairwise.imp_of_mem
abbrev xFf:=@wpAny_dictEpoch
abbrev xFg:=@wpAny_attempt
abbrev xFh:=@PySem.W.callWith_K
abbrev xFi:=@PySem.F.plain_sum_loop
abbrev xFj:=@List.getElem?_set_self
abbrev xFk:=@wpAny_dictEntries
abbrev xFl:=@List.getElem?_inj
abbrev xFm:=@List.ext_getElem?
abbrev xFn:=@List.append_assoc
abbrev xFo:=@Bool.false_and
abbrev xFp:=@PySem.F.slot_zip_next
abbrev xFq:=@PySem.F.slot_dict_get
abbrev xFr:=@List.getElem?_toArray
abbrev xFs:=@List.getElem?_eq_none
abbrev xFt:=@wpAny_typeNameOfWhole_valiter
abbrev xFu:=@wpAny_typeNameOfWhole_keyiter
abbrev xFv:=@Nat.le_add_right
abbrev xFw:=@List.lookup_cons
abbrev xFx:=@List.filter_cons
abbrev xFy:=@Calls.evalArgs_plain
abbrev xFz:=@wpAny_of_eq
abbrev xGa:=@wpAny_execs_nil
abbrev xGb:=@PySem.W.hideAll_get
abbrev xGc:=@Option.map_some
abbrev xGd:=@List.of_mem_zip
abbrev xGe:=@List.length_flatten
abbrev xGf:=@List.idxOf_lt_length_of_mem
abbrev xGg:=@List.getElem?_range
abbrev xGh:=@List.forIn_cons
abbrev xGi:=@List.filterMap_cons
abbrev xGj:=@wpAny_newFunctionEnv_cells
abbrev xGk:=@List.find?_eq_none
abbrev xGl:=@List.mem_of_find?_eq_some
abbrev xGm:=@List.forIn_nil
abbrev xGn:=@wpAny_typeNameOf_valiter
abbrev xGo:=@wpAny_typeNameOf_keyiter
abbrev xGp:=@wpAny_rule
abbrev xGq:=@wpAny_pyIter_slot
abbrev xGr:=@PySem.F.type_list_extend
abbrev xGs:=@PySem.F.slot_list_extend
abbrev xGt:=@Nat.lt_succ_of_lt
abbrev xGu:=@List.Pairwise.imp
abbrev xGv:=@List.Nodup.idxOf_getElem
abbrev xGw:=@List.length_eq_zero_iff
abbrev xGx:=@List.cons.inj
abbrev xGy:=@List.all_cons
abbrev xGz:=@Bool.true_and
abbrev xHa:=@Nat.lt_succ_self
abbrev xHb:=@PySem.W.cellsFrom_some
abbrev xHc:=@List.pairwise_lt_range
abbrev xHd:=@wpAny_updateSeq
abbrev xHe:=@wpAny_isOneOf_valiter
abbrev xHf:=@codeAny_call_function
abbrev xHg:=@Or.inr
abbrev xHh:=@List.map_nil
abbrev xHi:=@List.length_singleton
abbrev xHj:=@List.all_map
abbrev xHk:=@wpAny_updateSeq_pair
abbrev xHl:=@wpAny_newFunctionEnv
abbrev xHm:=@List.mem_iff_getElem
abbrev xHn:=@List.getElem?_of_mem
abbrev xHo:=@PySem.W.plainGet_of
abbrev xHp:=@List.mem_map_of_mem
abbrev xHq:=@List.map_congr_left
abbrev xHr:=@PySem.F.args_tuple_iterator_next_1
abbrev xHs:=@wpAny_onRaise
abbrev xHt:=@wpAny_handled
abbrev xHu:=@PySem.W.of_hideAll
abbrev xHv:=@PySem.F.entry_tuple_iterator_next
abbrev xHw:=@List.filter_append
abbrev xHx:=@wpAny_setEpoch_of
abbrev xHy:=@Option.isSome_map
abbrev xHz:=@Nat.lt_of_succ_lt
abbrev xIa:=@List.nodup_append
abbrev xIb:=@List.Pairwise.nil
abbrev xIc:=@wpAny_pyIter_zip
abbrev xId:=@wpAny_execs_cons
abbrev xIe:=@wpAny_eqBool_str
abbrev xIf:=@decide_eq_decide
abbrev xIg:=@Nat.succ_le_succ
abbrev xIh:=@Nat.le_of_not_lt
abbrev xIi:=@List.drop_length
abbrev xIj:=@wpAny_throw
abbrev xIk:=@wpAny_letGo
abbrev xIl:=@wpAny_ite_split
abbrev xIm:=@SeqAt.EqAt.same
abbrev xIn:=@List.filter_nil
abbrev xIo:=@List.all_append
abbrev xIp:=@Bool.or_eq_true
abbrev xIq:=@List.length_eraseIdx_of_lt
abbrev xIr:=@wpAny_tryCatch
abbrev xIs:=@wpAny_fieldsOf
abbrev xIt:=@PySem.F.plain_extend_loop
abbrev xIu:=@List.rel_of_pairwise_cons
abbrev xIv:=@Bool.and_false
abbrev xIw:=@wpAny_comprehension_free
abbrev xIx:=@List.length_erase_of_mem
abbrev xIy:=@List.getElem?_take_of_lt
abbrev xIz:=@List.filterMap_cons_some
abbrev xJa:=@List.filterMap_cons_none
abbrev xJb:=@wpAny_newList
abbrev xJc:=@wpAny_Call_method0_late
abbrev xJe:=@PySem.F.plain_list_iadd
abbrev xJf:=@PySem.F.plainAttrs_dict
abbrev xJg:=@PySem.F.args_zip_next_1
abbrev xJh:=@PySem.F.args_dict_get_2
abbrev xJi:=@List.getElem?_replicate
abbrev xJj:=@Bool.or_false
abbrev xJl:=@Bool.and_true
abbrev xJm:=@wpAny_pyNext_list_item
abbrev xJn:=@PySem.F.entry_zip_next
abbrev xJo:=@PySem.F.entry_sum_loop
abbrev xJp:=@PySem.F.entry_dict_get
abbrev xJq:=@wpAny_pyNext_list_end
abbrev xJr:=@wpAny_notOrdered_dict
abbrev xJs:=@wpAny_isTrue_Compare1
abbrev xJt:=@wpAny_isOneOf_keyiter
abbrev xJu:=@codeAny_func
abbrev xJv:=@PySem.W.methodCall_KW
abbrev xJw:=@PySem.F.type_dict_get
abbrev xJx:=@Nat.min_self
abbrev xJy:=@List.pairwise_flatMap
abbrev xJz:=@List.getElem?_reverse
abbrev xKa:=@List.Pairwise.of_cons
end L2
namespace L2
open PySem PySem.Spec PyProof.Rows PySem.W

abbrev Key:=Sum Int Str
def rK:Key->Value->Bool
 | .inl k,v=>Value.isInt k v
 | .inr x,v=>Value.isStrOf x v
def aXi (w:World):Key->Int
 | .inl k=>hashInt k
 | .inr x=>hashStr w x
theorem dL:∀ {k:Key}{v:Value},rK k v=true->(∃ i t,k=Sum.inl i/\v=Value.int i t)\/(∃ x t,k=Sum.inr x/\v=Value.str x t)
 | .inl i,v,h=>by
  obtain⟨t,e⟩:=Value.isInt_shape (k:=i) (v:=v) h;exact .inl ⟨i,t,rfl,e⟩
 | .inr x,v,h=>by
  obtain⟨t,e⟩:=Value.isStrOf_shape (x:=x) (v:=v) h;exact .inr ⟨x,t,rfl,e⟩
theorem aHh (i:Int)(t:Tok):rK (.inl i) (.int i t)=true:=by simp[rK,Value.isInt]
theorem aHg (x:Str)(t:Tok):rK (.inr x) (.str x t)=true:=by simp[rK,Value.isStrOf]
theorem aSd (a b:Int):decide ((Sum.inl a:Key)=Sum.inl b)=(a==b):=by
 by_cases e:a=b
 ·subst e; simp
 ·have h:¬ (Sum.inl a:Key)=Sum.inl b:=λq=>e (Sum.inl.inj q);rw[xBj h];exact (xDf.mpr e).symm
theorem aSa (a b:Str):decide ((Sum.inr a:Key)=Sum.inr b)=decide (a=b):=by
 by_cases e:a=b
 ·subst e; simp
 ·have h:¬ (Sum.inr a:Key)=Sum.inr b:=λq=>e (Sum.inr.inj q);rw[xBj h,xBj e]
theorem aSc (a:Int)(b:Str):decide ((Sum.inl a:Key)=Sum.inr b)=false:=xBj (λq=>nomatch q)
theorem aSb (a:Str)(b:Int):decide ((Sum.inr a:Key)=Sum.inl b)=false:=xBj (λq=>nomatch q)

def dA (prog:Program)(w:World):PySem.KeyKind prog w Key where
 is:=rK
 hash:=aXi w
 inj:=λv a b ha hb=>by
  rcases dL ha with⟨i,t,rfl,rfl⟩ | ⟨x,t,rfl,rfl⟩
  ·rcases dL hb with⟨j,u,rfl,e⟩ | ⟨y,u,rfl,e⟩
   ·injection e with e1 _; rw[e1]
   ·exact nomatch e
  ·rcases dL hb with⟨j,u,rfl,e⟩ | ⟨y,u,rfl,e⟩
   ·exact nomatch e
   ·injection e with e1 _; rw[e1]
 byValue:=λk v h=>by
  rcases dL h with⟨i,t,rfl,rfl⟩ | ⟨x,t,rfl,rfl⟩ <;> rfl
 pyHash:=λhv h=>by
  rcases dL hv with⟨i,t,rfl,rfl⟩ | ⟨x,t,rfl,rfl⟩
  ·exact wpAny_pyHash_int h
  ·exact wpAny_pyHash_str h
 eqBool:=λhu hv h=>by
  rcases dL hu with⟨i,t,rfl,rfl⟩ | ⟨x,t,rfl,rfl⟩
  ·rcases dL hv with⟨j,u,rfl,rfl⟩ | ⟨y,u,rfl,rfl⟩
   ·rw[aSd] at h; exact wpAny_eqBool_int h
   ·rw[aSc] at h; exact SeqAt.EqAt.int_str i t y u _ _ _ _ h
  ·rcases dL hv with⟨j,u,rfl,rfl⟩ | ⟨y,u,rfl,rfl⟩
   ·rw[aSb] at h; exact SeqAt.EqAt.str_int x t j u _ _ _ _ h
   ·rw[aSa] at h; exact xIe h
 «strs»:=λk x t v h=>by
  rcases dL h with⟨i,u,rfl,e⟩ | ⟨y,u,rfl,e⟩
  ·exact nomatch e
  ·injection e with e1 _;subst e1;cases v <;> rfl

theorem aAd (prog:Program)(w:World)(i:Int)(t:Tok):(dA prog w).is (.inl i) (.int i t)=true:=aHh i t
theorem aAc (prog:Program)(w:World)(x:Str)(t:Tok):(dA prog w).is (.inr x) (.str x t)=true:=aHg x t

inductive V where
 | non | bl (b:Bool) | int (i:Int) | str (x:Str) | byt (b:Array UInt8) | flt (b:UInt64) | ref (a:Addr) | ty (n:String)
 deriving DecidableEq

def cJ:V->Value->Prop
 | .non,u=>u=Value.none
 | .bl b,u=>u=Value.bool b
 | .int i,u=>∃ t,u=Value.int i t
 | .str x,u=>∃ t,u=Value.str x t
 | .byt b,u=>∃ t,u=Value.bytes b t
 | .flt b,u=>∃ t,u=Value.float b t
 | .ref a,u=>u=Value.ref a
 | .ty n,u=>u=Value.type n

abbrev bZ:List V->List Value->Prop:=Paired cJ
theorem bZ.length {xs:List V}{us:List Value}(r:bZ xs us):xs.length=us.length:=Paired.length r
theorem bZ.get:∀ {xs:List V}{us:List Value}{i:Nat}{x:V},bZ xs us->xs[i]?=some x->∃ u,us[i]?=some u/\cJ x u
 | _,_,_,_,.nil,e=>by simp at e
 | _,_,0,_,.cons r _,e=>by simp at e; subst e; exact⟨_,rfl,r⟩
 | _,_,i+1,x,.cons _ t,e=>by
  obtain⟨u,h1,h2⟩:=bZ.get (i:=i) (x:=x) t (by simpa using e);exact⟨u,by simpa using h1,h2⟩
theorem bZ.append:∀ {xs ys:List V}{us ws:List Value},bZ xs us->bZ ys ws->bZ (xs++ys) (us++ws)
 | _,_,_,_,.nil,s=>s
 | _,_,_,_,.cons r t,s=>.cons r (bZ.append t s)
theorem bZ.take:∀ {xs:List V}{us:List Value}(n:Nat),bZ xs us->bZ (xs.take n) (us.take n)
 | _,_,0,_=>.nil
 | _,_,_+1,.nil=>.nil
 | _,_,n+1,.cons r t=>.cons r (bZ.take n t)
theorem bZ.drop:∀ {xs:List V}{us:List Value}(n:Nat),bZ xs us->bZ (xs.drop n) (us.drop n)
 | _,_,0,r=>r
 | _,_,_+1,.nil=>.nil
 | _,_,n+1,.cons _ t=>bZ.drop n t

def kZ:Option V->Option Value->Prop
 | some v,some u=>cJ v u
 | none,none=>True
 | _,_=>False
def KV {κ:Type}:List (κ×V)->List (κ×Value)->Prop:=Paired λ(p:κ×V) (q:κ×Value)=>p.1=q.1/\cJ p.2 q.2

def kV:Key->V
 | .inl i=>.int i
 | .inr x=>.str x

inductive HO where
  | lst (xs:List V)
  | tup (xs:List V)
  | dK (kvs:List (Key×V)) | dT (kvs:List (List Key×V))
  | set (S:Int->Bool) (n:Nat)
  | ins (C dx:Addr) (fs:List (Str×V))
  | own (x:Addr)
  | xd (fs:List (Str×V))
  | met (f x:Addr)
  | rng (lo hi:Int)
  | frz (o:Obj) (u:HO)
  | tbl (ps:Array Value)
  | ext (φ:Heap->Prop)

abbrev Hp:=Addr->Option HO
def upd (H:Hp)(a:Addr)(o:HO):Hp:=λb=>if b=a then some o else H b
theorem aD {H:Hp}{a:Addr}{o:HO}:upd H a o a=some o:=by unfold upd; rw[xBe rfl]
theorem aG {H:Hp}{a b:Addr}{o:HO}(h:b≠a):upd H a o b=H b:=by unfold upd; rw[xAy h]
theorem fO {H:Hp}{a b:Addr}{o u:HO}(h:H a=some o)(h':H b=some u)(d:o≠u):a≠b:=by
 intro e; subst e; rw[h] at h'; exact d (xBp h')
theorem aF {H:Hp}{a b:Addr}{o:HO}(h:H a=some o)(h':H b=none):a≠b:=by
 intro e; subst e; rw[h] at h'; cases h'

section
variable (P:Program) (w:World)
def cU (H:Hp)(h:Heap)(a:Addr):HO->Prop
 | .lst xs=>xs.length<=sizeLine/\∃ (its:List Value) (n:Nat),bZ xs its/\h.get? a=some { cls:=.type "list",data:=.seq its.toArray n }
 | .tup xs=>xs.length<=sizeLine/\∃ its:List Value,bZ xs its/\IsTup h a its.toArray
 | .dK kvs=>kvs.length<=sizeLine/\(a==sysModules)=false/\∃ vs,KV kvs vs/\h.DictOf (dA P w) a vs
 | .dT kvs=>kvs.length<=sizeLine/\(a==sysModules)=false/\∃ xs:List (List Key×Addr×Value),
   Paired (λ(p:List Key×V) (q:List Key×Addr×Value)=>p.1=q.1/\H q.2.1=some (.tup (p.1.map kV))/\cJ p.2 q.2.2) kvs xs /\
   ∃ o es ep,h.get? a=some o/\o.ExactDict/\o.data=.dict es ep/\es.toList=xs.map (entryOfKey (tupleKind (dA P w)))/\(xs.map (·.1)).Nodup
 | .set S n=>h.SetOf (intKind P w) a S n
 | .ins C dx fs=>H dx=some (.own a)/\fs.length<=1000/\dx≠a/\h.get? a=some (instObj C dx) /\
   ∃ mA,h.Ns1 dx mA/\(∀ f,kZ (fs.lookup f) (mA f))/\PySem.Within mA (fs.map (·.1))
 | .own _=>∃ o,h.get? a=some o
 | .xd fs=>∃ mA,h.Ns1 a mA/\∀ f,kZ (fs.lookup f) (mA f)
 | .rng lo hi=>∃ t u v,h.get? a=some { cls:=.type "range",data:=.fields #[.int lo t,.int hi u,.int 1 v] }
 | .frz o u=>h.get? a=some o/\cU H h a u
 | .tbl ps=>h.get? a=some { cls:=.none,data:=.fields ps }
 | .met f x=>h.get? a=some (methodObj (.ref f) (.ref x))
 | .ext φ=>φ h/\(∃ o,h.get? a=some o)/\∀ h1 h2:Heap,φ h1->(∀ o,h1.get? a=some o->h2.get? a=some o)->φ h2
def HOk (H:Hp)(h:Heap):Prop:=∀ a o,H a=some o->cU P w H h a o
end

section
variable {P:Program}{w:World}{H H':Hp}{h h':Heap}{a:Addr}{o:HO}
theorem cU.lt (x:cU P w H h a o):a<h.objs.size:=by
 cases o with
 | lst xs=>obtain⟨_,_,_,_,e⟩:=x; exact xAm e
 | tup xs=>obtain⟨_,_,_,p⟩:=x; exact p.lt
 | dK kvs=>obtain⟨_,_,_,_,o,_,_,e,_⟩:=x; exact xAm e
 | dT kvs=>obtain⟨_,_,_,_,o,_,_,e,_⟩:=x; exact xAm e
 | set S n=>obtain⟨o,_,_,_,e,_⟩:=x; exact xAm e
 | ins C dx fs=>obtain⟨_,_,_,e,_⟩:=x; exact xAm e
 | own y=>obtain⟨_,e⟩:=x; exact xAm e
 | xd fs=>obtain⟨_,⟨_,_,_,e,_⟩,_⟩:=x; exact xAm e
 | rng lo hi=>obtain⟨_,_,_,e⟩:=x; exact xAm e
 | frz ob u=>obtain⟨e,_⟩:=x; exact xAm e
 | tbl ps=>exact xAm (show h.get? a=some _ from x)
 | met f y=>exact xAm (show h.get? a=some _ from x)
 | ext φ=>obtain⟨_,⟨_,e⟩,_⟩:=x; exact xAm e
theorem Paired.mapP {α β:Type}{F G:α->β->Prop}:∀ {l₁:List α}{l₂:List β},Paired F l₁ l₂->(∀ a b,F a b->G a b)->Paired G l₁ l₂
 | _,_,.nil,_=>.nil
 | _,_,.cons r t,f=>.cons (f _ _ r) (Paired.mapP t f)
theorem cU.stay (x:cU P w H h a o)(k:∀ b u,(b=a\/H b=some (.own a))->h.get? b=some u->h'.get? b=some u)
  (ho:∀ b,H b=some (.own a)->H' b=some (.own a))(ht:∀ b xs,H b=some (.tup xs)->H' b=some (.tup xs)):cU P w H' h' a o:=by
 induction o with
 | lst xs=>obtain⟨z,its,n,r,e⟩:=x; exact⟨z,its,n,r,k _ _ (.inl rfl) e⟩
 | tup xs=>obtain⟨z,its,r,ob,e,c⟩:=x; exact⟨z,its,r,ob,k _ _ (.inl rfl) e,c⟩
 | dK kvs=>obtain⟨z,y,vs,r,ob,es,ep,e,c⟩:=x; exact⟨z,y,vs,r,ob,es,ep,k _ _ (.inl rfl) e,c⟩
 | dT kvs=>
  obtain⟨z,y,xs,r,ob,es,ep,e,c⟩:=x;exact⟨z,y,xs,Paired.mapP r λp q z=>⟨z.1,ht _ _ z.2.1,z.2.2⟩,ob,es,ep,k _ _ (.inl rfl) e,c⟩
 | set S n=>obtain⟨ob,es,ep,t,e,c⟩:=x; exact⟨ob,es,ep,t,k _ _ (.inl rfl) e,c⟩
 | ins C dx fs=>
  obtain⟨d,z,ne,e,mA,⟨od,es,ep,e2,c⟩,r⟩:=x;exact⟨ho _ d,z,ne,k _ _ (.inl rfl) e,mA,⟨od,es,ep,k _ _ (.inr d) e2,c⟩,r⟩
 | own y=>obtain⟨ob,e⟩:=x; exact⟨ob,k _ _ (.inl rfl) e⟩
 | xd fs=>obtain⟨mA,⟨od,es,ep,e,c⟩,r⟩:=x; exact⟨mA,⟨od,es,ep,k _ _ (.inl rfl) e,c⟩,r⟩
 | rng lo hi=>obtain⟨t,u,v,e⟩:=x; exact⟨t,u,v,k _ _ (.inl rfl) e⟩
 | frz ob u ih=>obtain⟨e,q⟩:=x; exact⟨k _ _ (.inl rfl) e,ih q⟩
 | tbl ps=>
  have e:h.get? a=some { cls:=.none,data:=.fields ps }:=x;show h'.get? a=some { cls:=.none,data:=.fields ps };exact k a _ (.inl rfl) e
 | met f y=>
  have e:h.get? a=some (methodObj (.ref f) (.ref y)):=x;show h'.get? a=some (methodObj (.ref f) (.ref y));exact k a _ (.inl rfl) e
 | ext φ=>obtain⟨p,⟨o,e⟩,st⟩:=x; exact⟨st _ _ p λo q=>k _ _ (.inl rfl) q,⟨o,k _ _ (.inl rfl) e⟩,st⟩
theorem HOk.lt (x:HOk P w H h)(e:H a=some o):a<h.objs.size:=(x a o e).lt
theorem HOk.fresh (x:HOk P w H h)(e:h.objs.size<=a):H a=none:=by
 cases q:H a with
 | none=>rfl
 | some u=>exact xBg (xAq (x.lt q) e) (xCm _)
theorem HOk.kept (x:HOk P w H h)(k:∀ b u,h.get? b=some u->h'.get? b=some u):HOk P w H h':=λa o e=>
 (x a o e).stay (λb u _ q=>k b u q) (λ_ q=>q) λ_ _ q=>q
theorem HOk.laid (x:HOk P w H h)(k:∀ b u,h.get? b=some u->h'.get? b=some u)(hp:h.objs.size<=a)(new:cU P w (upd H a o) h' a o):HOk P w (upd H a o) h':=λb u e=>by
 have hn:=x.fresh hp
 by_cases hb:b=a
 ·subst hb; rw[aD] at e; cases e; exact new
 ·rw[aG hb] at e;exact (x b u e).stay (λc v _ q=>k c v q) (λc q=>by rw[aG (aF q hn)]; exact q) λc xs q=>by rw[aG (aF q hn)]; exact q
end

def Rd (H:Hp)(a:Addr)(u:HO):Prop:=H a=some u\/∃ o,H a=some (.frz o u)
theorem Rd.ok {P:Program}{w:World}{H:Hp}{h:Heap}{a:Addr}{u:HO}(r:Rd H a u)(x:HOk P w H h):cU P w H h a u:=by
 rcases r with r | ⟨o,r⟩
 ·exact x a u r
 ·obtain⟨_,q⟩:=x a _ r;exact q
def Mut:Option HO->Prop
 | some (.lst _)=>True
 | some (.dK _)=>True
 | some (.dT _)=>True
 | some (.set _ _)=>True
 | some (.ins _ _ _)=>True
 | some (.ext _)=>True
 | _=>False
section
variable {P:Program}{w:World}{H:Hp}{h h':Heap}{x e:Addr}{o':HO}
theorem HOk.write (ok:HOk P w H h)(mu:Mut (H x))(he:e=x\/H e=some (.own x))(k:∀ b u,b≠e->h.get? b=some u->h'.get? b=some u)(heo:∃ u,h'.get? e=some u)
  (new:cU P w (upd H x o') h' x o'):HOk P w (upd H x o') h':=λb u q=>by
 have nown:∀ c y,H c=some (.own y)->c≠x:=λc y r z=>by subst z; rw[r] at mu; exact mu
 have ntup:∀ c xs,H c=some (.tup xs)->c≠x:=λc xs r z=>by subst z; rw[r] at mu; exact mu
 by_cases hb:b=x
 ·subst hb; rw[aD] at q; cases q; exact new
 ·rw[aG hb] at q
  by_cases hbe:b=e
  ·have q':H b=some (.own x):=by
    rcases he with z | z
    ·exact xBg (hbe.trans z) hb
    ·rw[hbe]; exact z
   rw[q] at q'; cases q';obtain⟨v,hv⟩:=heo;exact⟨v,by rw[hbe]; exact hv⟩
  ·refine (ok b u q).stay (λc v hc r=>k c v ?_ r) (λc r=>by rw[aG (nown c b r)]; exact r) λc xs r=>by rw[aG (ntup c xs r)]; exact r
   rcases hc with rfl | hc
   ·exact hbe
   ·rintro rfl;rcases he with z | z
    ·exact nown c b hc z
    ·rw[hc] at z; cases z; exact hb rfl
end

structure Un (fs ex:List Addr)(H H':Hp)(h h':Heap):Prop where
 keep:∀ b o,h.get? b=some o->H b=none->b∉fs->b∉ex->h'.get? b=some o
 slot:∀ b o,h.get? b=some o->H b=none->b∈fs->b∉ex->∃ sl,h'.get? b=some { o with slots:=sl }
 free:∀ b o,h.get? b=some o->H b=none->b∉ex->H' b=none
 there:∀ b o,h.get? b=some o->b∉ex->∃ o',h'.get? b=some o'
 tups:∀ b xs,H b=some (.tup xs)->H' b=some (.tup xs)
 frzs:∀ b o u,H b=some (.frz o u)->H' b=some (.frz o u)
 tbls:∀ b ps,H b=some (.tbl ps)->∃ more,H' b=some (.tbl (ps++more))
section
variable {fs fs' ex ex':List Addr}{H H1 H2:Hp}{h h1 h2 h':Heap}{a x e:Addr}{o:HO}
theorem Un.any (u:Un fs ex H H1 h h1){b:Addr}{ob:Obj}(q:h.get? b=some ob)(n:H b=none)(hx:b∉ex):∃ sl,h1.get? b=some { ob with slots:=sl }:=by
 by_cases hb:b∈fs
 ·exact u.slot b ob q n hb hx
 ·exact⟨ob.slots,u.keep b ob q n hb hx⟩
theorem Un.kept (k:∀ b u,h.get? b=some u->h'.get? b=some u):Un fs ex H H h h':=
 ⟨λb ob q _ _ _=>k b ob q,λb ob q _ _ _=>⟨ob.slots,k b ob q⟩,λ_ _ _ n _=>n,λb ob q _=>⟨ob,k b ob q⟩,λ_ _ q=>q,λ_ _ _ q=>q,λ_ ps q=>⟨#[],by rw[q]; simp⟩⟩
theorem Un.refl:Un fs ex H H h h:=Un.kept λ_ _ q=>q
theorem Un.laid (k:∀ b u,h.get? b=some u->h'.get? b=some u)(hp:h.objs.size<=a)(hn:H a=none):Un fs ex H (upd H a o) h h' where
 keep:=λb u q _ _ _=>k b u q
 slot:=λb u q _ _ _=>⟨u.slots,k b u q⟩
 free:=λb u q n _=>by rw[aG (xAz (xAq (xAm q) hp))]; exact n
 there:=λb u q _=>⟨u,k b u q⟩
 tups:=λb xs q=>by rw[aG (aF q hn)]; exact q
 frzs:=λb u xs q=>by rw[aG (aF q hn)]; exact q
 tbls:=λb ps q=>⟨#[],by rw[aG (aF q hn),q]; simp⟩
theorem Un.write (mu:Mut (H x))(he:e=x\/H e=some (.own x))(k:∀ b u,b≠e->h.get? b=some u->h'.get? b=some u)(heo:∃ u,h'.get? e=some u):Un fs ex H (upd H x o) h h':=by
 have hx:∀ b,H b=none->b≠x:=λb n z=>by subst z; rw[n] at mu; exact mu
 have hb:∀ b,H b=none->b≠e:=λb n z=>by
  subst z;rcases he with r | r
  ·exact hx b n r
  ·rw[n] at r; cases r
 have hm:∀ b u,H b=some u->¬ Mut (some u)->b≠x:=λb u q nm z=>by subst z; rw[q] at mu; exact nm mu
 refine⟨λb u q n _ _=>k b u (hb b n) q,λb u q n _ _=>⟨u.slots,k b u (hb b n) q⟩,λb u q n _=>by rw[aG (hx b n)]; exact n,λb u q _=>?_,
  λb xs q=>by rw[aG (hm b _ q λz=>z)]; exact q,λb u xs q=>by rw[aG (hm b _ q λz=>z)]; exact q,λb ps q=>⟨#[],by rw[aG (hm b _ q λz=>z),q]; simp⟩⟩
 by_cases hbe:b=e
 ·subst hbe; exact heo
 ·exact⟨u,k b u hbe q⟩
end

def trk (h:Heap)(H:Hp):List Addr:=(List.range h.objs.size).filter λa=>(H a).isSome
def xS (h:Heap)(H:Hp):Heap:=hideAll h (trk h H)
theorem aHk (h:Heap)(H:Hp):(xS h H).objs.size=h.objs.size:=hideAll_size _ _
theorem tY {h:Heap}{H:Hp}{b:Addr}{o:Obj}(e:h.get? b=some o)(n:H b=none):(xS h H).get? b=some o:=
 xGb _ e λhm=>by
  have q:(H b).isSome=true:=(xCc.mp hm).2;rw[n] at q; simp at q
theorem aOr {h:Heap}{H:Hp}{b:Addr}{o:Obj}(e:(xS h H).get? b=some o):h.get? b=some o/\H b=none:=by
 have e':h.get? b=some o:=xHu (trk h H) e;refine⟨e',?_⟩;cases q:H b with
 | none=>rfl
 | some x=>
  have hm:b∈trk h H:=xCc.mpr ⟨xDm.mpr (xAm e'),by simp[q]⟩;have z:(xS h H).get? b=none:=hideAll_none (trk h H) hm;rw[z] at e; cases e


structure Mod (K:xAd)(mg:xSO)(base:Heap):Prop where
 kin:K.In base
 glob:base.Ns mainGlobals mg
 blt:∃ mb,base.Ns builtinsNs mb/\∀ x:Str,x≠"__name__" -> mb x=bootBuiltins x
 nolimit:base.NoLimit

structure Cx where
 prog:Program
 w:World
 K:xAd
 mg:Str->Option Value
 base:Heap
 A:Around
 N:List Str
 s₀:Shared
 H₀:Hp
 env:Env
 outer:List Env
 stack:List Env
 ex:List Addr
 fn:Str->Bool
 calm:Bool
 pn:List (Addr×Obj)
 xe:Value->Shared->Prop
def frs (l:List Env):List Addr:=l.filterMap (·.frame)
abbrev Cx.fs (X:Cx):List Addr:=frs X.outer

def Vis (sc:Scope)(x:Str):Prop:=sc.names.lookup x=some .local\/sc.names.lookup x=some .cell\/sc.names.lookup x=some .free
def Loc (sc:Scope)(x:Str):Prop:=sc.names.lookup x=some .local\/sc.names.lookup x=some .cell
def aXs (env:Env)(h:Heap)(m:xSO)(x:Str)(u:Value):Prop:=
 (env.kindOf x=some .local/\m x=some u)\/((env.kindOf x=some .cell\/env.kindOf x=some .free)/\∃ c,env.cells.lookup x=some c/\h.IsCell c (some u))

structure Cx.Ok (X:Cx):Prop where
 mod:Mod X.K X.mg X.base
 kind:X.env.scope.kind=.function
 glob:X.env.globals=mainGlobals
 blt:X.env.builtins=builtinsNs
 above:X.s₀.heap.objs.size<=X.env.locals
 inj:∀ x y c,X.env.cells.lookup x=some c->X.env.cells.lookup y=some c->x=y
 has:∀ x,(X.env.kindOf x=some .cell\/X.env.kindOf x=some .free)->∃ c,X.env.cells.lookup x=some c
 cab:∀ x c,X.fn x=true->X.env.cells.lookup x=some c->X.s₀.heap.objs.size<=c
 hd:X.calm=true->X.A.handled=none
 frames:X.A.frames=some X.stack
 stk:X.stack=X.outer\/(X.stack=X.env::X.outer/\X.env.frame=some X.env.locals)
 exf:∀ b∈X.ex,b≠X.env.locals/\∀ x c,X.env.cells.lookup x=some c->c≠b
 bs:∀ b o,X.base.get? b=some o->X.s₀.heap.get? b=some o/\X.H₀ b=none
 bsz:X.base.objs.size<=X.s₀.heap.objs.size
 noex:∀ b o,X.base.get? b=some o->b∉X.ex
 exfs:∀ b∈X.ex,b∉X.fs
 funs:X.s₀.heap.FunFrames X.base X.outer
 frf:∀ b∈X.fs,X.H₀ b=none

structure Inv (X:Cx)(pins:xPn)(Z:List (Option V))(H:Hp)(s:Shared):Prop where
 ok:X.Ok
 os:s.os=X.s₀.os
 bare:AllBare s.gens
 base:Un X.fs X.ex X.H₀ H X.s₀.heap s.heap
 loc:∃ m,s.heap.Ns X.env.locals m/\∀ (i:Nat) (x:Str) (v:V),X.N[i]?=some x->Z[i]?=some (some v)->Vis X.env.scope x->∃ u,cJ v u/\aXs X.env s.heap m x u
 cell:∀ x c,X.env.cells.lookup x=some c->∃ v,s.heap.IsCell c v
 free:H X.env.locals=none
 freeC:∀ x c,X.env.cells.lookup x=some c->H c=none
 pin:∀ p∈X.pn++pins,s.heap.get? p.1=some p.2/\H p.1=none/\p.1≠X.env.locals/\p.1∉X.fs/\∀ v,p.2.data≠.cell v
 hok:HOk X.prog X.w H s.heap
 len:Z.length=X.N.length

section
variable {X:Cx}{pins:xPn}{Z:List (Option V)}{H H':Hp}{s:Shared}{h':Heap}

theorem Cx.Ok.nofr (ok:X.Ok){b:Addr}{o:Obj}(e:X.base.get? b=some o):b∉X.fs:=λhb=>by
 have:=(ok.funs.mem hb).1
 rw[e] at this; cases this
theorem Inv.bs (I:Inv X pins Z H s):∀ b o,X.base.get? b=some o->s.heap.get? b=some o/\H b=none:=λb o e=>
 ⟨I.base.keep b o (I.ok.bs b o e).1 (I.ok.bs b o e).2 (I.ok.nofr e) (I.ok.noex b o e),I.base.free b o (I.ok.bs b o e).1 (I.ok.bs b o e).2 (I.ok.noex b o e)⟩
theorem Inv.bk (I:Inv X pins Z H s):∀ b o,X.base.get? b=some o->s.heap.get? b=some o:=λb o e=>(I.bs b o e).1
theorem Inv.mod (I:Inv X pins Z H s):Mod X.K X.mg X.base:=I.ok.mod
theorem Inv.kIn (I:Inv X pins Z H s):X.K.In s.heap:=I.ok.mod.kin.keeps I.bk
theorem Inv.nolimit (I:Inv X pins Z H s):s.heap.NoLimit:=I.ok.mod.nolimit.keeps I.bk
theorem Inv.lt (I:Inv X pins Z H s):X.env.locals<s.heap.objs.size:=let ⟨_,hn,_⟩:=I.loc; hn.lt
theorem Inv.sz (I:Inv X pins Z H s):X.s₀.heap.objs.size<=s.heap.objs.size:=xAr I.ok.above (xDw I.lt)
theorem Inv.nofs (I:Inv X pins Z H s){a:Addr}(h:s.heap.objs.size<=a):a∉X.fs:=λhb=>by
 obtain⟨_,o,ho,_⟩:=I.ok.funs.mem hb;exact xBg (xAq (xAm ho) (xAr I.sz h)) (xCm _)
theorem Inv.cne (I:Inv X pins Z H s):∀ x c,X.env.cells.lookup x=some c->c≠X.env.locals:=λx c e z=>by
 obtain⟨v,o,ho,hd⟩:=I.cell x c e;obtain⟨m,⟨o',es,ep,ho',hd',_⟩,_⟩:=I.loc;rw[z,ho'] at ho; cases ho; rw[hd'] at hd; cases hd
theorem Inv.funs (I:Inv X pins Z H s):s.heap.FunFrames X.base X.outer:=by
 have all:∀ (l:List Env),(∀ b∈frs l,b∈X.fs)->X.s₀.heap.FunFrames X.base l->s.heap.FunFrames X.base l:=by
  intro l
  induction l with
  | nil=>intro _ _; trivial
  | cons env r ih=>
   intro hs hl;obtain⟨hk,⟨L,o,hf,hn,ho,hd⟩,hr⟩:=hl;have hL:L∈X.fs:=hs L (by unfold frs; rw[xGi,hf]; exact xBk);obtain⟨sl,e⟩:=I.base.slot L o ho (I.ok.frf L hL) hL λz=>I.ok.exfs L z hL;exact⟨hk,⟨L,_,hf,hn,e,hd⟩,ih (λb hb=>hs b (by unfold frs; rw[xGi,hf]; exact xBi _ hb)) hr⟩
 exact all X.outer (λ_ hb=>hb) I.ok.funs

theorem Inv.stack (I:Inv X pins Z H s):s.heap.FunFrames X.base X.stack:=by
 rcases I.ok.stk with e | ⟨e,hf⟩
 ·rw[e]; exact I.funs
 ·rw[e];obtain⟨m,hn,_⟩:=I.loc;refine .cons (by rw[I.ok.kind]; decide) hf hn ?_ I.funs;exact Heap.get?_none_of_le (xAr I.ok.bsz I.ok.above)
theorem Inv.stkSub (I:Inv X pins Z H s):∀ b∈frs X.stack,b∈X.env.locals::X.fs:=λb hb=>by
 rcases I.ok.stk with e | ⟨e,hf⟩
 ·rw[e] at hb; exact xBi _ hb
 ·rw[e] at hb;unfold frs at hb;rw[xGi,hf] at hb;exact hb
theorem Inv.stkFree (I:Inv X pins Z H s):∀ b∈frs X.stack,H b=none:=λb hb=>by
 rcases xAo.mp (I.stkSub b hb) with e | hb
 ·rw[e]; exact I.free
 ·obtain⟨_,o,ho,_⟩:=I.ok.funs.mem hb;exact I.base.free b o ho (I.ok.frf b hb) λz=>I.ok.exfs b z hb

theorem Inv.step {g':Array GenState}{t':Nat}{d':Drawn}{ch:List Addr}(I:Inv X pins Z H s)
  (hch:∀ b∈ch,(b∈X.ex\/X.s₀.heap.objs.size<=b)/\b≠X.env.locals/\(∀ x c,X.env.cells.lookup x=some c->c≠b)/\∀ p∈X.pn++pins,p.1≠b)
  (keep:∀ b o,b≠X.env.locals->b∉X.fs->b∉ch->s.heap.get? b=some o->H b=none->h'.get? b=some o)
  (slot:∀ b o,b≠X.env.locals->b∈X.fs->b∉ch->s.heap.get? b=some o->H b=none->∃ sl,h'.get? b=some { o with slots:=sl })(free:∀ b o,b∉ch->s.heap.get? b=some o->H b=none->H' b=none)
  (there:∀ b o,b∉ch->s.heap.get? b=some o->∃ o',h'.get? b=some o')
  (tups:∀ b xs,H b=some (.tup xs)->H' b=some (.tup xs))(frzs:∀ b o u,H b=some (.frz o u)->H' b=some (.frz o u))(tbls:∀ b ps,H b=some (.tbl ps)->∃ more,H' b=some (.tbl (ps++more)))
  (ns:∀ m,s.heap.Ns X.env.locals m->h'.Ns X.env.locals m)(hok:HOk X.prog X.w H' h')(hg:AllBare g') :
  Inv X pins Z H' { s with heap:=h',gens:=g',drawn:=d',toks:=t' }:=by
 have neL:∀ b o,X.s₀.heap.get? b=some o->b≠X.env.locals:=λb o e=>xAz (xAq (xAm e) I.ok.above)
 have neC:∀ b o,X.s₀.heap.get? b=some o->b∉X.ex->b∉ch:=λb o e hx hb=>by
  rcases (hch b hb).1 with z | z
  ·exact hx z
  ·exact xBg (xAq (xAm e) z) (xCm _)
 have cellK:∀ x c,X.env.cells.lookup x=some c->∀ v,s.heap.IsCell c v->h'.IsCell c v:=λx c e v ⟨o,ho,hd⟩=>by
  have nch:c∉ch:=λz=>(hch c z).2.2.1 x c e rfl
  by_cases hc:c∈X.fs
  ·obtain⟨sl,q⟩:=slot c o (I.cne x c e) hc nch ho (I.freeC x c e);exact⟨_,q,hd⟩
  ·exact⟨o,keep c o (I.cne x c e) hc nch ho (I.freeC x c e),hd⟩
 refine⟨I.ok,I.os,hg,⟨λb o e n hb hx=>?_,λb o e n hb hx=>?_,λb o e n hx=>?_,λb o e hx=>?_,λb xs e=>tups b xs (I.base.tups b xs e),λb o xs e=>frzs b o xs (I.base.frzs b o xs e),λb ps e=>?_⟩,?_,λx c e=>?_,?_,λx c e=>?_,λp hp=>?_,hok,I.len⟩
 ·exact keep b o (neL b o e) hb (neC b o e hx) (I.base.keep b o e n hb hx) (I.base.free b o e n hx)
 ·obtain⟨sl,e1⟩:=I.base.slot b o e n hb hx;obtain⟨sl',e2⟩:=slot b _ (neL b o e) hb (neC b o e hx) e1 (I.base.free b o e n hx);exact⟨sl',e2⟩
 ·obtain⟨o',e1⟩:=I.base.there b o e hx;exact free b o' (neC b o e hx) e1 (I.base.free b o e n hx)
 ·obtain⟨o',e1⟩:=I.base.there b o e hx;exact there b o' (neC b o e hx) e1
 ·obtain⟨m1,e1⟩:=I.base.tbls b ps e;obtain⟨m2,e2⟩:=tbls b _ e1;exact⟨m1++m2,by rw[e2,Array.append_assoc]⟩
 ·obtain⟨m,hn,hl⟩:=I.loc;refine⟨m,ns m hn,λi x v e1 e2 e3=>?_⟩;obtain⟨u,r,l⟩:=hl i x v e1 e2 e3;refine⟨u,r,?_⟩;rcases l with l | ⟨k,c,e,z⟩
  ·exact .inl l
  ·exact .inr ⟨k,c,e,cellK x c e _ z⟩
 ·obtain⟨v,z⟩:=I.cell x c e;exact⟨v,cellK x c e v z⟩
 ·obtain⟨m,⟨o,_,_,ho,_⟩,_⟩:=I.loc;exact free _ o (λz=>(hch _ z).2.1 rfl) ho I.free
 ·obtain⟨v,o,ho,hd⟩:=I.cell x c e;exact free c o (λz=>(hch c z).2.2.1 x c e rfl) ho (I.freeC x c e)
 ·obtain⟨e,n,ne,nf,d⟩:=I.pin p hp;have nch:p.1∉ch:=λz=>(hch p.1 z).2.2.2 p hp rfl;exact⟨keep p.1 p.2 ne nf nch e n,free p.1 p.2 nch e n,ne,nf,d⟩
theorem Inv.un {t':Nat}(I:Inv X pins Z H s)(u:Un X.fs [] H H' s.heap h')(hok:HOk X.prog X.w H' h'):Inv X pins Z H' { s with heap:=h',toks:=t' }:=by
 obtain⟨m,⟨o,es,ep,ho,r⟩,_⟩:=id I.loc;obtain⟨sl,hL⟩:=u.any ho I.free (by simp)
 exact I.step (g':=s.gens) (d':=s.drawn) (ch:=[]) (λ_ z=>nomatch z) (λb o _ hb _ e n=>u.keep b o e n hb (by simp)) (λb o _ hb _ e n=>u.slot b o e n hb (by simp)) (λb o _ e n=>u.free b o e n (by simp)) (λb o _ e=>u.there b o e (by simp)) u.tups u.frzs u.tbls (λm' hm=>by
  obtain⟨o',es',ep',ho',r'⟩:=hm;rw[ho] at ho'; cases ho';exact⟨_,es',ep',hL,r'⟩) hok I.bare
theorem Inv.call {g':Array GenState}{t':Nat}{d':Drawn}{ch:List Addr}(I:Inv X pins Z H s)(u:Un (frs X.stack) ch H H' s.heap h')(hok:HOk X.prog X.w H' h')(hg:AllBare g')
  (hch:∀ b∈ch,(b∈X.ex\/X.s₀.heap.objs.size<=b)/\b≠X.env.locals/\(∀ x c,X.env.cells.lookup x=some c->c≠b)/\∀ p∈X.pn++pins,p.1≠b) :
  Inv X pins Z H' { s with heap:=h',gens:=g',drawn:=d',toks:=t' }:=by
 obtain⟨m,⟨o,es,ep,ho,r⟩,_⟩:=id I.loc;obtain⟨sl,hL⟩:=u.any ho I.free λz=>(hch _ z).2.1 rfl
 exact I.step (ch:=ch) hch (λb o hL hb hc e n=>u.keep b o e n (λz=>(xAo.mp (I.stkSub b z)).elim hL hb) hc) (λb o _ _ hc e n=>u.any e n hc) (λb o hc e n=>u.free b o e n hc) (λb o hc e=>u.there b o e hc) u.tups u.frzs u.tbls (λm' hm=>by
  obtain⟨o',es',ep',ho',r'⟩:=hm;rw[ho] at ho'; cases ho';exact⟨_,es',ep',hL,r'⟩) hok hg
theorem Inv.turned {t':Nat}{it:Addr}(I:Inv X pins Z H s)(k:∀ b o,b≠it->s.heap.get? b=some o->h'.get? b=some o)(hn:H it=none)(hL:it≠X.env.locals)
  (h1:it∈X.ex\/X.s₀.heap.objs.size<=it)(h2:∀ x c,X.env.cells.lookup x=some c->c≠it)(h3:∀ p∈X.pn++pins,p.1≠it):Inv X pins Z H { s with heap:=h',toks:=t' }:=by
 have nit:∀ b u,H b=some u->b≠it:=λb u e z=>by rw[z,hn] at e; cases e
 refine I.step (g':=s.gens) (d':=s.drawn) (ch:=[it]) (λb hb=>?_) (λb o _ _ hc e _=>k b o (λz=>hc (by simp[z])) e) (λb o _ _ hc e _=>⟨o.slots,k b o (λz=>hc (by simp[z])) e⟩) (λ_ _ _ _ n=>n)
  (λb o hc e=>⟨o,k b o (λz=>hc (by simp[z])) e⟩) (λ_ _ e=>e) (λ_ _ _ e=>e) (λb ps e=>⟨#[],by rw[e]; simp⟩) (λm hm=>?_) (λb u e=>?_) I.bare
 ·have e:b=it:=by simpa using hb
  subst e;exact⟨h1,hL,h2,h3⟩
 ·obtain⟨o,es,ep,ho,r⟩:=hm;exact⟨o,es,ep,k _ o (Ne.symm hL) ho,r⟩
 ·refine (I.hok b u e).stay (λc v hc q=>k c v ?_ q) (λ_ q=>q) λ_ _ q=>q;rcases hc with z | z
  ·rw[z]; exact nit b u e
  ·exact nit c _ z
theorem Inv.tok (I:Inv X pins Z H s)(t:Nat):Inv X pins Z H { s with toks:=t }:=I.un (h':=s.heap) (t':=t) Un.refl I.hok
theorem Inv.kept {t':Nat}(I:Inv X pins Z H s)(k:∀ b u,s.heap.get? b=some u->h'.get? b=some u):Inv X pins Z H { s with heap:=h',toks:=t' }:=I.un (Un.kept k) (I.hok.kept k)
theorem Inv.laid {a:Addr}{o:HO}{t':Nat}(I:Inv X pins Z H s)(k:∀ b u,s.heap.get? b=some u->h'.get? b=some u)(hp:s.heap.objs.size<=a)(new:cU X.prog X.w (upd H a o) h' a o) :
  Inv X pins Z (upd H a o) { s with heap:=h',toks:=t' }:=I.un (Un.laid k hp (I.hok.fresh hp)) (I.hok.laid k hp new)
theorem Inv.write {x e:Addr}{o:HO}{t':Nat}(I:Inv X pins Z H s)(mu:Mut (H x))(he:e=x\/H e=some (.own x))(k:∀ b u,b≠e->s.heap.get? b=some u->h'.get? b=some u)(heo:∃ u,h'.get? e=some u)
  (new:cU X.prog X.w (upd H x o) h' x o):Inv X pins Z (upd H x o) { s with heap:=h',toks:=t' }:=I.un (Un.write mu he k heo) (I.hok.write mu he k heo new)
theorem Inv.pins_of {pins':xPn}(I:Inv X pins Z H s)(h:∀ p∈pins',s.heap.get? p.1=some p.2/\H p.1=none/\p.1≠X.env.locals/\p.1∉X.fs/\∀ v,p.2.data≠.cell v):Inv X pins' Z H s:=
 ⟨I.ok,I.os,I.bare,I.base,I.loc,I.cell,I.free,I.freeC,λp hp=>(xCp.mp hp).elim (λz=>I.pin p (xDk _ z)) (h p),I.hok,I.len⟩

theorem zW {N:List Str}(hN:N.Nodup){i j:Nat}{x:Str}(a:N[i]?=some x)(b:N[j]?=some x):i=j:=by
 obtain⟨h1,e1⟩:=xAc.mp a;obtain⟨h2,e2⟩:=xAc.mp b;exact (List.getElem_inj hN).mp (e1.trans e2.symm)

theorem vK {M:Model}{A:Around}{E:xVP}{i:Nat}{x:Str}{v:V}{u:Value}{Q:Unit->Shared->Prop}(I:Inv X pins Z H s)(hN:X.N.Nodup)(hi:X.N[i]?=some x)(hx:Loc X.env.scope x)(r:cJ v u)
  (h:∀ s',Inv X pins (Z.set i (some v)) H s'->(∃ a,Heap.SameBut a s.heap s'.heap/\(a=X.env.locals\/X.env.cells.lookup x=some a))->Q () s')(hf:X.fn x=true\/X.env.scope.names.lookup x=some .local:=by first | exact .inl rfl | exact .inr rfl | assumption):wpAny M A (storeName X.env x u) Q E s:=by
 obtain⟨m,hn,hl⟩:=id I.loc;have hcls:(X.env.scope.kind==.class||(X.env.scope.kind==.module&&X.env.locals != X.env.globals))=false:=by rw[I.ok.kind]; rfl
 have hiZ:i<Z.length:=by rw[I.len]; exact (xAc.mp hi).1
 have cne:=I.cne
 have tracked:∀ {a:Addr}{h':Heap},(∃ o,s.heap.get? a=some o/\H a=none)->Heap.SameBut a s.heap h'->HOk X.prog X.w H h':=λ{a h'} ha hs b ob e=>by
  obtain⟨_,_,hfree⟩:=ha;refine (I.hok b ob e).stay (λc w' hc q=>(hs.2 c ?_).trans q) (λ_ q=>q) λ_ _ q=>q;rintro rfl;rcases hc with rfl | hc
  ·rw[hfree] at e; cases e
  ·rw[hfree] at hc; cases hc
 rcases hx with hk | hk
 ·refine wpAny_storeName_local hk hn (λh' hn' hs=>?_) hcls;obtain⟨oL,_,_,hoL,_⟩:=id hn;refine h _ ⟨I.ok,I.os,I.bare,⟨λb o e n hb hx=>?_,λb o e n hb hx=>?_,I.base.free,λb o e hx=>?_,I.base.tups,I.base.frzs,I.base.tbls⟩,⟨_,hn',λj y v' e1 e2 e3=>?_⟩,λy c e=>?_,I.free,I.freeC,λp hp=>?_,tracked ⟨oL,hoL,I.free⟩ hs,by simpa using I.len⟩ ⟨_,hs,.inl rfl⟩
  ·exact (hs.2 b (xAz (xAq (xAm e) I.ok.above))).trans (I.base.keep b o e n hb hx)
  ·obtain⟨sl,e1⟩:=I.base.slot b o e n hb hx;exact⟨sl,(hs.2 b (xAz (xAq (xAm e) I.ok.above))).trans e1⟩
  ·obtain⟨o',e1⟩:=I.base.there b o e hx;exact⟨o',(hs.2 b (xAz (xAq (xAm e) I.ok.above))).trans e1⟩
  ·by_cases hj:j=i
   ·subst hj;rw[hi] at e1; cases e1;rw[xFj hiZ] at e2;cases e2;exact⟨u,r,.inl ⟨hk,by simp⟩⟩
   ·rw[List.getElem?_set_ne (Ne.symm hj)] at e2;obtain⟨u',r',q⟩:=hl j y v' e1 e2 e3;refine⟨u',r',?_⟩;rcases q with⟨k,e⟩ | ⟨k,c,e,z⟩
    ·refine .inl ⟨k,?_⟩
     have:y≠x:=λe=>hj (zW hN e1 (e▸hi))
     simp[this,e]
    ·exact .inr ⟨k,c,e,z.sameBut hs (cne y c e)⟩
  ·obtain⟨w',z⟩:=I.cell y c e;exact⟨w',z.sameBut hs (cne y c e)⟩
  ·obtain⟨e,n,ne,nf,d⟩:=I.pin p hp;exact⟨(hs.2 p.1 ne).trans e,n,ne,nf,d⟩
 ·have hfn:X.fn x=true:=by
   rcases hf with z | z
   ·exact z
   ·rw[z] at hk; cases hk
  obtain⟨c,hc⟩:=I.ok.has x (.inl hk);obtain⟨w',z⟩:=I.cell x c hc;refine wpAny_storeName_cell I.ok.kind hk hc z (λh' hc' hs=>?_);obtain⟨oc,hoc,hocd⟩:=id z;refine h { s with heap:=h' } ⟨I.ok,I.os,I.bare,⟨λb o e n hb hx=>?_,λb o e n hb hx=>?_,I.base.free,λb o e hx=>?_,I.base.tups,I.base.frzs,I.base.tbls⟩,⟨m,hn.sameBut hs (Ne.symm (cne x c hc)),λj y v' e1 e2 e3=>?_⟩,λy c' e=>?_,I.free,I.freeC,λp hp=>?_,tracked ⟨oc,hoc,I.freeC x c hc⟩ hs,by simpa using I.len⟩ ⟨c,hs,.inr hc⟩
  ·exact (hs.2 b (xAz (xAq (xAm e) (I.ok.cab x c hfn hc)))).trans (I.base.keep b o e n hb hx)
  ·obtain⟨sl,e1⟩:=I.base.slot b o e n hb hx;exact⟨sl,(hs.2 b (xAz (xAq (xAm e) (I.ok.cab x c hfn hc)))).trans e1⟩
  ·obtain⟨o',e1⟩:=I.base.there b o e hx;exact⟨o',(hs.2 b (xAz (xAq (xAm e) (I.ok.cab x c hfn hc)))).trans e1⟩
  ·by_cases hj:j=i
   ·subst hj;rw[hi] at e1; cases e1;rw[xFj hiZ] at e2;cases e2;exact⟨u,r,.inr ⟨.inl hk,c,hc,hc'⟩⟩
   ·rw[List.getElem?_set_ne (Ne.symm hj)] at e2;obtain⟨u',r',q⟩:=hl j y v' e1 e2 e3;refine⟨u',r',?_⟩;rcases q with q | ⟨k,c',e,z'⟩
    ·exact .inl q
    ·refine .inr ⟨k,c',e,z'.sameBut hs ?_⟩;rintro rfl;exact hj (zW hN e1 (I.ok.inj _ _ _ e hc▸hi))
  ·by_cases hcc:c'=c
   ·subst hcc; exact⟨_,hc'⟩
   ·obtain⟨w2,z2⟩:=I.cell y c' e;exact⟨w2,z2.sameBut hs hcc⟩
  ·obtain⟨e,n,ne,nf,d⟩:=I.pin p hp;refine⟨(hs.2 p.1 ?_).trans e,n,ne,nf,d⟩;intro q;rw[q,hoc] at e;have q':oc=p.2:=xBp e;exact d w' (by rw[<- q']; exact hocd)
theorem sM {M:Model}{A:Around}{E:xVP}{i:Nat}{x:Str}{v:V}{u:Value}{Q:Unit->Shared->Prop}(I:Inv X pins Z H s)(hN:X.N.Nodup)(hi:X.N[i]?=some x)(hx:Loc X.env.scope x)(r:cJ v u)
  (h:∀ s',Inv X pins (Z.set i (some v)) H s'->Q () s')(hf:X.fn x=true\/X.env.scope.names.lookup x=some .local:=by first | exact .inl rfl | exact .inr rfl | assumption):wpAny M A (storeName X.env x u) Q E s:=
 vK I hN hi hx r (λs' I' _=>h s' I') hf
theorem Inv.call' {s':Shared}{ch:List Addr}(I:Inv X pins Z H s)(ho:s'.os=s.os)(u:Un (frs X.stack) ch H H' s.heap s'.heap)(hok:HOk X.prog X.w H' s'.heap)(hg:AllBare s'.gens)
  (hch:∀ b∈ch,(b∈X.ex\/X.s₀.heap.objs.size<=b)/\b≠X.env.locals/\(∀ x c,X.env.cells.lookup x=some c->c≠b)/\∀ p∈X.pn++pins,p.1≠b):Inv X pins Z H' s':=by
 obtain⟨h',g',d',t',o'⟩:=s';have e:o'=s.os:=ho;subst e;exact I.call (g':=g') (t':=t') (d':=d') u hok hg hch
end

abbrev XK:=Value->Option Addr->Hp->Prop
abbrev St:=List (Option V)
abbrev VK:=V->Hp->Prop
abbrev TE:=St->Hp->VK->Prop
abbrev TT:=St->Hp->(Bool->Hp->Prop)->Prop
abbrev TA:=St->Hp->(List V->Hp->Prop)->Prop
structure rV where
 nx:St->Hp->Prop
 rt:VK
 bk:St->Hp->Prop:=λ_ _=>False
 ct:St->Hp->Prop:=λ_ _=>False
abbrev TS:=rV->St->Hp->Prop

inductive EP (X:Cx)(pins:xPn)(Z:St)(Q:VK)(u:Value)(s':Shared):Prop
 | mk (v:_)(H':_)(h0_:Inv X pins Z H' s')(h1_:cJ v u)(h2_:Q v H')
inductive TP (X:Cx)(pins:xPn)(Z:St)(Q:Bool->Hp->Prop)(b:Bool)(s':Shared):Prop
 | mk (H':_)(h0_:Inv X pins Z H' s')(h1_:Q b H')
inductive AP (X:Cx)(pins:xPn)(Z:St)(Q:List V->Hp->Prop)(us:List Value)(s':Shared):Prop
 | mk (vs:_)(H':_)(h0_:Inv X pins Z H' s')(h1_:bZ vs us)(h2_:Q vs H')
def SP (X:Cx)(pins:xPn)(D:rV)(f:Flow)(s':Shared):Prop:=
 match f with
 | .next=>∃ Z' H',Inv X pins Z' H' s'/\D.nx Z' H'
 | .brk=>∃ Z' H',Inv X pins Z' H' s'/\D.bk Z' H'
 | .cont=>∃ Z' H',Inv X pins Z' H' s'/\D.ct Z' H'
 | .ret u=>∃ v Z' H',Inv X pins Z' H' s'/\cJ v u/\D.rt v H'

def PE (X:Cx)(e:Expr)(t:TE):Prop:=
 ∀ (pins:xPn) (s:Shared) (Z:St) (H:Hp) (Q:VK),Inv X pins Z H s->t Z H Q->wpAny (model X.prog X.w) X.A (eval e X.env) (EP X pins Z Q) X.xe s
def PT (X:Cx)(e:Expr)(t:TT):Prop:=
 ∀ (pins:xPn) (s:Shared) (Z:St) (H:Hp) (Q:Bool->Hp->Prop),Inv X pins Z H s->t Z H Q->wpAny (model X.prog X.w) X.A (isTrue e X.env (eval e X.env)) (TP X pins Z Q) X.xe s
def PW (X:Cx)(e:Expr)(t:TT):Prop:=
 ∀ (whole:Sem Value) (pins:xPn) (s:Shared) (Z:St) (H:Hp) (Q:Bool->Hp->Prop),Inv X pins Z H s->t Z H Q->wpAny (model X.prog X.w) X.A (isTrue e X.env whole) (TP X pins Z Q) X.xe s
theorem PW.pt {X:Cx}{e:Expr}{t:TT}(h:PW X e t):PT X e t:=h _
def PA (X:Cx)(es:List Expr)(t:TA):Prop:=
 ∀ (pos:Pos) (pins:xPn) (s:Shared) (Z:St) (H:Hp) (Q:List V->Hp->Prop),Inv X pins Z H s->t Z H Q->wpAny (model X.prog X.w) X.A (spliced (backTo pos (starEach es X.env))) (AP X pins Z Q) X.xe s
def PS (X:Cx)(st:Stmt)(t:TS):Prop:=
 ∀ (pins:xPn) (s:Shared) (Z:St) (H:Hp) (D:rV),Inv X pins Z H s->t D Z H->wpAny (model X.prog X.w) X.A (exec st X.env) (SP X pins D) X.xe s
def PSs (X:Cx)(st:List Stmt)(t:TS):Prop:=
 ∀ (pins:xPn) (s:Shared) (Z:St) (H:Hp) (D:rV),Inv X pins Z H s->t D Z H->wpAny (model X.prog X.w) X.A (execs st X.env) (SP X pins D) X.xe s
theorem thn {α:Type}{t:Sem α}{Q Q':α->Shared->Prop}{M:Model}{A:Around}{E:xVP}{s:Shared}(h:wpAny M A t Q E s)(hQ:∀ a s,Q a s->Q' a s):wpAny M A t Q' E s:=xCr h hQ λ_ _ x=>x
section
variable {X:Cx}


inductive yK (i:Nat)(Z:St)(H:Hp)(Q:VK):Prop
 | mk (v:_)(h0_:Z[i]?=some (some v))(h1_:Q v H)
def tC (v:V):TE:=λ_ H Q=>Q v H
theorem qG {i:Nat}{x:Str}{pos:Pos}(hN:X.N[i]?=some x)(hv:Vis X.env.scope x)(hd:(x==("__debug__" : Str))=false:=by decide)(hcd:(x==("__classdict__" : Str))=false:=by decide):PE X (.Name x pos) (yK i):=by
 intro pins s Z H Q I h;obtain⟨v,e,h⟩:=h;obtain⟨m,hn,hl⟩:=I.loc;obtain⟨u,r,l⟩:=hl i x v hN e hv;have fin:EP X pins Z Q u s:=⟨v,H,I,r,h⟩;rcases l with⟨hk,hm⟩ | ⟨hk,c,hc,hcell⟩
 ·exact wpAny_Name (wpAny_loadName_local I.ok.kind hk hn hm fin) hd
 ·rcases hk with hk | hk
  ·exact wpAny_Name (wpAny_loadName_cell I.ok.kind hk hc hcell fin) hd
  ·exact wpAny_Name (wpAny_loadName_free I.ok.kind hk hc hcell fin hcd) hd
theorem aN {i j pos}:PE X (.Constant (.int i) j pos) (tC (.int i)):=λ_ _ _ H _ I h=>wpAny_Constant_int ⟨.int i,H,I.tok _,⟨_,rfl⟩,h⟩
theorem pB {b j pos}:PE X (.Constant (.bool b) j pos) (tC (.bl b)):=λ_ _ _ H _ I h=>Constant_bool ⟨.bl b,H,I,rfl,h⟩
theorem jJ {j pos}:PE X (.Constant .none j pos) (tC .non):=λ_ _ _ H _ I h=>Constant_none ⟨.non,H,I,rfl,h⟩
theorem aS {x j pos}:PE X (.Constant (.str x) j pos) (tC (.str x)):=λ_ _ _ H _ I h=>Calls.Constant_str ⟨.str x,H,I.tok _,⟨_,rfl⟩,h⟩

def Gl (X:Cx)(x:Str):Prop:=X.env.kindOf x=some .globalImplicit
theorem gS {E:xVP}{pins:xPn}{s:Shared}{Z:St}{H:Hp}{x:Str}{u:Value}{pos:Pos}{Q:xVP}(I:Inv X pins Z H s)(hg:Gl X x)(hm:X.mg x=some u)(h:Q u s)
  (hd:(x==("__debug__" : Str))=false:=by decide):wpAny (model X.prog X.w) X.A (eval (.Name x pos) X.env) Q E s:=
 Calls.Name_function_global I.ok.kind hg (Calls.loadGlobal_global (by rw[I.ok.glob]; exact I.mod.glob.keeps I.bk) hm h) hd
theorem lQ {E:xVP}{pins:xPn}{s:Shared}{Z:St}{H:Hp}{x:Str}{u:Value}{pos:Pos}{Q:xVP}(I:Inv X pins Z H s)(hg:Gl X x)(hm:X.mg x=none)(hv:bootBuiltins x=some u)(h:Q u s)
  (hn:x≠"__name__" := by decide)(hd:(x==("__debug__" : Str))=false:=by decide):wpAny (model X.prog X.w) X.A (eval (.Name x pos) X.env) Q E s:=by
 obtain⟨mb,h1,h2⟩:=I.mod.blt;exact Calls.Name_function_global I.ok.kind hg (Calls.loadGlobal_builtin (by rw[I.ok.glob]; exact I.mod.glob.keeps I.bk) hm (by rw[I.ok.blt]; exact h1.keeps I.bk) ((h2 x hn).trans hv) h) hd
theorem jC {x:Str}{v:V}{u:Value}{pos:Pos}(hg:Gl X x)(hm:X.mg x=some u)(r:cJ v u)(hd:(x==("__debug__" : Str))=false:=by decide):PE X (.Name x pos) (tC v):=
 λ_ _ _ H _ I h=>gS I hg hm ⟨v,H,I,r,h⟩ hd
theorem aEp {x:Str}{v:V}{u:Value}{pos:Pos}(hg:Gl X x)(hm:X.mg x=none)(hv:bootBuiltins x=some u)(r:cJ v u)(hn:x≠"__name__" := by decide)(hd:(x==("__debug__" : Str))=false:=by decide):PE X (.Name x pos) (tC v):=
 λ_ _ _ H _ I h=>lQ I hg hm hv ⟨v,H,I,r,h⟩ hn hd

variable {a b:Expr}{ta tb:TE}{pos:Pos}

def PC (X:Cx)(op:CmpOp)(a b:Expr)(t:TE):Prop:=
 ∀ (pins:xPn) (s:Shared) (Z:St) (H:Hp) (Q:VK),Inv X pins Z H s->t Z H Q ->
  wpAny (model X.prog X.w) X.A (eval a X.env) (λv s₁=>wpAny (model X.prog X.w) X.A (eval b X.env) (λu s₂=>wpAny (model X.prog X.w) X.A (compareOp op v u) (EP X pins Z Q) X.xe s₂) X.xe s₁) X.xe s
def tB (t:TE):TT:=λZ H Q=>t Z H λx H1=>∃ c,x=.bl c/\Q c H1
theorem aKg {op:CmpOp}{t:TE}(h:PC X op a b t)(h1:behindInMarks op b=false:=by first | exact nobehind _ (by decide) (by decide) | rfl):PE X (.Compare a [op] [b] pos) t:=λpins s Z H Q I hw=>wpAny_Compare1 (h pins s Z H Q I hw) h1
theorem qF {op:CmpOp}{t:TE}(h:PC X op a b t)(h1:behindInMarks op b=false:=by first | exact nobehind _ (by decide) (by decide) | rfl):PT X (.Compare a [op] [b] pos) (tB t):=by
 intro pins s Z H Q I hw;refine xJs (thn (h pins s Z H _ I hw) λv s1 h1=>thn h1 λu s2 h2=>thn h2 λc s3 ⟨x,H1,I1,r1,q1⟩=>?_) h1;obtain⟨d,rfl,q⟩:=q1;cases r1;exact xEd ⟨H1,I1,q⟩
theorem kE {e:Expr}{t:TE}(h:PE X e t)(he:∀ whole,isTrue e X.env whole=(do let v <- whole; standAt e.pos; holding [v] (truthy v)):=by intro _; rfl):PT X e (tB t):=by
 intro pins s Z H Q I hw;refine isTrue_plain (thn (h pins s Z H _ I hw) λv s1 ⟨x,H1,I1,r1,q1⟩=>?_) (he _);obtain⟨d,rfl,q⟩:=q1;cases r1;exact xEd ⟨H1,I1,q⟩

variable {tA tB':TT}{rest:List Expr}
def aVy (t u:TT):TT:=λZ H Q=>t Z H λc H1=>if c=true then u Z H1 Q else Q false H1
def tOr (t u:TT):TT:=λZ H Q=>t Z H λc H1=>if c=true then Q true H1 else u Z H1 Q
def aVq (t:TT):TT:=λZ H Q=>t Z H λc H1=>Q (!c) H1
theorem xG (ha:PT X a tA):PW X (.BoolOp .And [a] pos) tA:=by
 intro wh pins s Z H Q I h;refine isTrue_and (thn (ha pins s Z H Q I h) λc s1 e=>?_);cases c with
 | true=>exact isTrue_and_nil e
 | false=>exact e
theorem qE (ha:PT X a tA):PW X (.BoolOp .Or [a] pos) tA:=by
 intro wh pins s Z H Q I h;refine isTrue_or (thn (ha pins s Z H Q I h) λc s1 e=>?_);cases c with
 | false=>exact isTrue_or_nil e
 | true=>exact e
theorem aCd (ha:PT X a tA)(hb:PW X (.BoolOp .And (b::rest) pos) tB'):PW X (.BoolOp .And (a::b::rest) pos) (aVy tA tB'):=by
 intro wh pins s Z H Q I h;refine isTrue_and (thn (ha pins s Z H _ I h) λc s1 ⟨H1,I1,q1⟩=>?_);cases c with
 | true=>exact hb wh pins s1 Z H1 Q I1 q1
 | false=>exact⟨H1,I1,q1⟩
theorem rD (ha:PT X a tA)(hb:PW X (.BoolOp .Or (b::rest) pos) tB'):PW X (.BoolOp .Or (a::b::rest) pos) (tOr tA tB'):=by
 intro wh pins s Z H Q I h;refine isTrue_or (thn (ha pins s Z H _ I h) λc s1 ⟨H1,I1,q1⟩=>?_);cases c with
 | true=>exact⟨H1,I1,q1⟩
 | false=>exact hb wh pins s1 Z H1 Q I1 q1
theorem kG (ha:PT X a tA):PT X (.UnaryOp .Not a pos) (aVq tA):=by
 intro pins s Z H Q I h;exact isTrue_not (thn (ha pins s Z H (λc H1=>Q (!c) H1) I h) λc s1 ⟨H',I',q⟩=>⟨H',I',q⟩)
inductive aVi (x:V)(H:Hp)(Q:Bool->Hp->Prop):Prop
 | mk (k:Bool)(h:x=.bl k)(q:Q k H)
def aTh (ta tb:TE):TE:=λZ H Q=>ta Z H λx H1=>aVi x H1 λc H1=>if c=true then tb Z H1 Q else Q (.bl false) H1
theorem aKb {op}{t:TE}(h:PE X a t):PE X (.BoolOp op [a] pos) t:=λpins s Z H Q I hw=>BoolOp_one (h pins s Z H Q I hw)
theorem aKi (ha:PE X a ta)(hb:PE X (.BoolOp .And (b::rest) pos) tb):PE X (.BoolOp .And (a::b::rest) pos) (aTh ta tb):=by
 intro pins s Z H Q I h;refine BoolOp_and (thn (ha pins s Z H _ I h) λv s1 ⟨x,H1,I1,r1,q1⟩=>?_);obtain⟨c,rfl,q1⟩:=q1;cases r1;refine xEd ?_;cases c with
 | true=>exact hb pins s1 Z H1 Q I1 q1
 | false=>exact⟨.bl false,H1,I1,rfl,q1⟩
def tIf (t:TT)(ta tb:TE):TE:=λZ H Q=>t Z H λc H1=>if c=true then ta Z H1 Q else tb Z H1 Q
theorem zO {c:Expr}(hc:PT X c tA)(ha:PE X a ta)(hb:PE X b tb):PE X (.IfExp c a b pos) (tIf tA ta tb):=by
 intro pins s Z H Q I h;refine wpAny_IfExp (thn (hc pins s Z H _ I h) λd s1 ⟨H1,I1,q1⟩=>?_);cases d with
 | true=>exact ha pins s1 Z H1 Q I1 q1
 | false=>exact hb pins s1 Z H1 Q I1 q1
end

def SqL (K:xAd)(H:Hp)(a:Addr)(xs:List V):Prop:=
 Rd H a (.lst xs) \/
  ∃ (o:Obj) (its:Array Value) (n:Nat),K.lookup a=some o/\o.cls=.type "list" /\ o.dict=none/\o.data=.seq its n/\its.size<=sizeLine/\bZ xs its.toList
def SqT (K:xAd)(H:Hp)(a:Addr)(xs:List V):Prop:=
 Rd H a (.tup xs) \/
  ∃ (o:Obj) (its:Array Value) (n:Nat),K.lookup a=some o/\o.cls=.type "tuple" /\ o.data=.seq its n/\its.size<=sizeLine/\bZ xs its.toList
def aXp:Value->Option V
 | .none=>some .non
 | .bool b=>some (.bl b)
 | .int i _=>some (.int i)
 | .str x _=>some (.str x)
 | .bytes b _=>some (.byt b)
 | .float b _=>some (.flt b)
 | .ref a=>some (.ref a)
 | .type n=>some (.ty n)
 | _=>none
theorem cJ.abs {x:V}{u:Value}(r:cJ x u):aXp u=some x:=by
 cases x with
 | non=>cases r; rfl
 | bl _=>cases r; rfl
 | int _=>obtain⟨t,rfl⟩:=r; rfl
 | str _=>obtain⟨t,rfl⟩:=r; rfl
 | byt _=>obtain⟨t,rfl⟩:=r; rfl
 | flt _=>obtain⟨t,rfl⟩:=r; rfl
 | ref _=>cases r; rfl
 | ty _=>cases r; rfl
theorem cJ.inj {x y:V}{u:Value}(r:cJ x u)(q:cJ y u):x=y:=xBp (r.abs.symm.trans q.abs)
theorem bZ.inj:∀ {xs ys:List V}{us:List Value},bZ xs us->bZ ys us->xs=ys
 | _,_,_,.nil,.nil=>rfl
 | _,_,_,.cons r t,.cons r' t'=>by rw[r.inj r',bZ.inj t t']
section
variable {X:Cx}{pins:xPn}{Z:St}{H:Hp}{s:Shared}{a:Addr}{xs ys:List V}
theorem SqL.of {K:xAd}(h:H a=some (.lst xs)):SqL K H a xs:=.inl (.inl h)
theorem SqT.of {K:xAd}(h:H a=some (.tup xs)):SqT K H a xs:=.inl (.inl h)
theorem Inv.list (I:Inv X pins Z H s)(h:SqL X.K H a xs):∃ its:List Value,bZ xs its/\PlainL s.heap a its.toArray/\xs.length<=sizeLine:=by
 rcases h with h | ⟨o,its,n,hk,hc,hd,hs,hz,r⟩
 ·obtain⟨z,its,n,r,e⟩:=h.ok I.hok;exact⟨its,r,⟨_,n,e,rfl,rfl,rfl⟩,z⟩
 ·refine⟨its.toList,r,⟨o,n,I.kIn a o hk,hc,hd,by simpa using hs⟩,?_⟩;have e:=r.length;simp only[Array.length_toList] at e;omega
theorem Inv.tuple (I:Inv X pins Z H s)(h:SqT X.K H a xs):∃ its:List Value,bZ xs its/\IsTup s.heap a its.toArray/\xs.length<=sizeLine:=by
 rcases h with h | ⟨o,its,n,hk,hc,hs,hz,r⟩
 ·obtain⟨z,its,r,p⟩:=h.ok I.hok;exact⟨its,r,p,z⟩
 ·refine⟨its.toList,r,⟨o,I.kIn a o hk,hc,n,by simpa using hs⟩,?_⟩;have e:=r.length;simp only[Array.length_toList] at e;omega
theorem Inv.list_inj (I:Inv X pins Z H s)(h:SqL X.K H a xs)(h':SqL X.K H a ys):xs=ys:=by
 obtain⟨its,r,⟨o,n,e,_,_,d⟩,_⟩:=I.list h;obtain⟨its',r',⟨o',n',e',_,_,d'⟩,_⟩:=I.list h';rw[e] at e'; cases e';rw[d] at d';injection d' with d1 _
 have:its=its':=by simpa using congrArg Array.toList d1
 subst this;exact r.inj r'
theorem Inv.tuple_inj (I:Inv X pins Z H s)(h:SqT X.K H a xs)(h':SqT X.K H a ys):xs=ys:=by
 obtain⟨its,r,⟨o,e,_,n,d⟩,_⟩:=I.tuple h;obtain⟨its',r',⟨o',e',_,n',d'⟩,_⟩:=I.tuple h';rw[e] at e'; cases e';rw[d] at d';injection d' with d1 _
 have:its=its':=by simpa using congrArg Array.toList d1
 subst this;exact r.inj r'
end

abbrev Cx.wish (X:Cx)(E:xVP):Cx:={ X with xe:=E }
abbrev Cx.nox (X:Cx):Cx:=X.wish λ_ _=>False
theorem Cx.Ok.wish {X:Cx}(ok:X.Ok)(E:xVP):(X.wish E).Ok:=
 ⟨ok.mod,ok.kind,ok.glob,ok.blt,ok.above,ok.inj,ok.has,ok.cab,ok.hd,ok.frames,ok.stk,ok.exf,ok.bs,ok.bsz,ok.noex,ok.exfs,ok.funs,ok.frf⟩
theorem Cx.Ok.unwish {X:Cx}{E:xVP}(ok:(X.wish E).Ok):X.Ok:=
 ⟨ok.mod,ok.kind,ok.glob,ok.blt,ok.above,ok.inj,ok.has,ok.cab,ok.hd,ok.frames,ok.stk,ok.exf,ok.bs,ok.bsz,ok.noex,ok.exfs,ok.funs,ok.frf⟩
section
variable {X:Cx}{pins:xPn}{Z:St}{H:Hp}{s:Shared}{E:xVP}
theorem Inv.wish (I:Inv X pins Z H s)(E:xVP):Inv (X.wish E) pins Z H s:=⟨I.ok.wish E,I.os,I.bare,I.base,I.loc,I.cell,I.free,I.freeC,I.pin,I.hok,I.len⟩
theorem Inv.unwish (I:Inv (X.wish E) pins Z H s):Inv X pins Z H s:=⟨I.ok.unwish,I.os,I.bare,I.base,I.loc,I.cell,I.free,I.freeC,I.pin,I.hok,I.len⟩
theorem SP.unwish {D:rV}{f:Flow}{s':Shared}(h:SP (X.wish E) pins D f s'):SP X pins D f s':=by
 cases f with
 | next=>obtain⟨Z',H',I,q⟩:=h; exact⟨Z',H',I.unwish,q⟩
 | brk=>obtain⟨Z',H',I,q⟩:=h; exact⟨Z',H',I.unwish,q⟩
 | cont=>obtain⟨Z',H',I,q⟩:=h; exact⟨Z',H',I.unwish,q⟩
 | ret u=>obtain⟨v,Z',H',I,r,q⟩:=h; exact⟨v,Z',H',I.unwish,r,q⟩
theorem PSs.nox {st:List Stmt}{t:TS}(h:PSs X.nox st t):PSs X st t:=λpins s Z H D I hw=>
 xCr (h pins s Z H D (I.wish _) hw) (λ_ _ q=>q.unwish) λ_ _ z=>False.elim z
end

section
variable {X:Cx}{st:Stmt}{rest:List Stmt}{t u:TS}{e:Expr}{te:TE}{pos:Pos}
def aTb:TS:=λD Z H=>D.nx Z H
def aVo (t u:TS):TS:=λD Z H=>t { D with nx:=u D } Z H
theorem cG:PSs X [] aTb:=λ_ _ Z H _ I h=>xGa ⟨Z,H,I,h⟩
theorem aK (h1:PS X st t)(h2:PSs X rest u):PSs X (st::rest) (aVo t u):=by
 intro pins s Z H D I h;refine xId (thn (h1 pins s Z H { D with nx:=u D } I h) λf s1 q=>?_);cases f with
 | next=>
  obtain⟨Z',H',I',q⟩:=q;exact h2 pins s1 Z' H' D I' q
 | ret v=>exact q
 | brk=>exact q
 | cont=>exact q
theorem aL (h1:PS X st t):PSs X [st] t:=by
 intro pins s Z H D I h;refine xId (thn (h1 pins s Z H D I h) λf s1 q=>?_);cases f with
 | next=>exact xGa q
 | ret v=>exact q
 | brk=>exact q
 | cont=>exact q
theorem Inv.quiet {pins:xPn}{Z:St}{H:Hp}{s:Shared}(I:Inv X pins Z H s):interactive X.env=false:=by simp[interactive,I.ok.kind]
def aTe (te:TE):TS:=λD Z H=>te Z H λ_ H1=>D.nx Z H1
theorem cW (he:PE X e te)(hs:swapsWith e none pos.line X.env=pure false:=by rfl):PS X (.Expr e pos) (aTe te):=by
 intro pins s Z H D I h;exact wpAny_Expr_any (thn (he pins s Z H _ I h) λv s1 ⟨x,H1,I1,r1,q1⟩=>⟨Z,H1,I1,q1⟩) I.quiet hs
def aVp (te:TE):TS:=λD Z H=>te Z H D.rt
theorem bO (he:PE X e te):PS X (.Return (some e) pos) (aVp te):=by
 intro pins s Z H D I h;exact wpAny_Return_some (thn (he pins s Z H _ I h) λv s1 ⟨x,H1,I1,r1,q1⟩=>⟨x,Z,H1,I1,r1,q1⟩)
def aVs (c:TT)(t u:TS):TS:=λD Z H=>c Z H λb H1=>if b=true then t D Z H1 else u D Z H1
theorem dR {c:Expr}{a b:List Stmt}{tc:TT}(hc:PT X c tc)(ha:PSs X a t)(hb:PSs X b u):PS X (.If c a b pos) (aVs tc t u):=by
 intro pins s Z H D I h;refine wpAny_If (thn (hc pins s Z H _ I h) λd s1 ⟨H1,I1,q1⟩=>?_);cases d with
 | true=>exact ha pins s1 Z H1 D I1 q1
 | false=>exact hb pins s1 Z H1 D I1 q1
end

abbrev TG:=V->St->Hp->(St->Hp->Prop)->Prop
abbrev TGs:=List V->St->Hp->(St->Hp->Prop)->Prop
def PG (X:Cx)(target:Expr)(t:TG):Prop:=
 ∀ (pins:xPn) (s:Shared) (Z:St) (H:Hp) (v:V) (u:Value) (Q:St->Hp->Prop),Inv X pins Z H s->cJ v u->t v Z H Q ->
  wpAny (model X.prog X.w) X.A (assign target X.env u) (λ_ s'=>∃ Z' H',Inv X pins Z' H' s'/\Q Z' H') X.xe s
def PGs (X:Cx)(ts:List Expr)(t:TGs):Prop:=
 ∀ (pins:xPn) (s:Shared) (Z:St) (H:Hp) (vs:List V) (us:List Value) (Q:St->Hp->Prop),Inv X pins Z H s->bZ vs us->t vs Z H Q ->
  wpAny (model X.prog X.w) X.A (assignInOrder ((assignEach ts X.env).map (·.2)) us) (λ_ s'=>∃ Z' H',Inv X pins Z' H' s'/\Q Z' H') X.xe s
section
variable {X:Cx}{pos:Pos}
def eK (i:Nat):TG:=λv Z H Q=>Q (Z.set i (some v)) H
theorem aP {i:Nat}{x:Str}(hN:X.N.Nodup)(hi:X.N[i]?=some x)(hx:Loc X.env.scope x)(hf:X.fn x=true\/X.env.scope.names.lookup x=some .local:=by first | exact .inl rfl | exact .inr rfl | assumption):PG X (.Name x pos) (eK i):=by
 intro pins s Z H v u Q I r h;exact wpAny_assign_Name (sM I hN hi hx r (λs' I'=>⟨_,H,I',h⟩) hf)
def uY:TGs:=λvs Z H Q=>vs=[]/\Q Z H
inductive gC (t:TG)(u:TGs)(vs:List V)(Z:St)(H:Hp)(Q:St->Hp->Prop):Prop
 | mk (v:V)(r:List V)(h1:vs=v::r)(q:t v Z H λZ' H'=>u r Z' H' Q)

theorem dG:PGs X [] uY:=by
 intro pins s Z H vs us Q I r h;obtain⟨e,h⟩:=h;subst e;cases r;exact assignInOrder_nil ⟨Z,H,I,h⟩
theorem aU {e:Expr}{es:List Expr}{t:TG}{u:TGs}(h1:PG X e t)(h2:PGs X es u)
  (hs:(assignEach (e::es) X.env).map (·.2)=assign e X.env::(assignEach es X.env).map (·.2):=by rfl):PGs X (e::es) (gC t u):=by
 intro pins s Z H vs us Q I r h;obtain⟨v,vr,e1,h⟩:=h;subst e1;cases r with
 | cons r rr=>
  rw[hs];refine assignInOrder_cons (thn (h1 pins s Z H _ _ _ I r h) λ_ s1 ⟨Z1,H1,I1,q1⟩=>?_);exact h2 pins s1 Z1 H1 _ _ Q I1 rr q1
inductive uX (K:xAd)(n:Nat)(t:TGs)(v:V)(Z:St)(H:Hp)(Q:St->Hp->Prop):Prop
 | mk (a:Addr)(xs:List V)(h1:v=.ref a)(h2:SqT K H a xs)(h3:xs.length=n)(q:t xs Z H Q)

theorem eC {es:List Expr}{k:Nat}{t:TGs}{n:Nat}(hc:X.calm=true)(h:PGs X es t)
  (hn:(assignEach es X.env).length=n:=by rfl)(hst:(assignEach es X.env).findIdx? (·.1)=none:=by rfl):PG X (.Tuple es k pos) (uX X.K n t):=by
 intro pins s Z H v u Q I r hw;obtain⟨a,xs,e1,hq,hl,hw⟩:=hw;subst e1;cases r;obtain⟨its,rv,ht,hz⟩:=I.tuple hq;refine assign_Tuple_tuple (I.ok.hd hc) ht (by simp[hn,<- hl,rv.length]) hst λh' hx=>?_;have I1:Inv X pins Z H { s with heap:=h' }:=I.kept (t':=s.toks) λb o e=>hx b o (xAz (xAm e)) e;exact h pins _ Z H xs _ Q I1 (by simpa using rv) hw
def aIu (te:TE)(g:TG):TS:=λD Z H=>te Z H λx H1=>g x Z H1 D.nx
theorem aRh {tg e:Expr}{te:TE}{g:TG}(he:PE X e te)(hg:PG X tg g)(hs:swapsWithSole [tg] e pos.line X.env=pure false:=by rfl)(hw:swappedStores [tg] e X.env=pure none:=by rfl)
  (h1:(assignEach [tg] X.env).map (·.2)=[assign tg X.env]:=by rfl):PS X (.Assign [tg] e pos) (aIu te g):=by
 intro pins s Z H D I h;refine wpAny_Assign_stores (thn (he pins s Z H _ I h) λv s1 ⟨x,H1,I1,r1,q1⟩=>?_) hs hw;rw[h1];exact thn (hg pins s1 Z H1 x v _ I1 r1 q1) λ_ s2 q=>q
theorem bJ {i:Nat}{x:Str}{e:Expr}{te:TE}{pos':Pos}(hN:X.N.Nodup)(hi:X.N[i]?=some x)(hx:Loc X.env.scope x)(he:PE X e te)(hs:swapsWith e (some (.Name x pos')) pos.line X.env=pure false:=by rfl)(hf:X.fn x=true\/X.env.scope.names.lookup x=some .local:=by first | exact .inl rfl | exact .inr rfl | assumption) :
  PS X (.Assign [.Name x pos'] e pos) (aIu te (eK i)):=by
 intro pins s Z H D I h;refine wpAny_Assign_Name (thn (he pins s Z H _ I h) λv s1 ⟨y,H1,I1,r1,q1⟩=>?_) hs;exact sM I1 hN hi hx r1 (λs2 I2=>⟨_,H1,I2,q1⟩) hf
end

section
variable {X:Cx}{pos:Pos}
def aQq (c:TT)(tb:TS):TS:=λD Z H=>∃ W:Nat->St->Hp->Prop,(∃ m,W m Z H)/\∀ m Z H,W m Z H ->
 c Z H λb H1=>if b=true then ∃ N:St->Hp->Prop,(∀ Z' H',N Z' H'->∃ m',m'<m/\W m' Z' H')/\tb { D with nx:=N,ct:=N,bk:=D.nx } Z H1 else D.nx Z H1
theorem zI {c:Expr}{body:List Stmt}{tc:TT}{tb:TS}(hp:PassesOwn (model X.prog X.w) X.A X.env X.xe)(hc:PT X c tc)(hb:PSs X body tb):PS X (.While c body [] pos) (aQq tc tb):=by
 intro pins s Z H D I h;obtain⟨W,⟨m0,w0⟩,turn⟩:=h;refine wpAny_While (codeAny_whileLoop (λn s'=>∃ Z' H',Inv X pins Z' H' s'/\W n Z' H') ?_ m0 ⟨Z,H,I,w0⟩);rintro n s1 ⟨Z1,H1,I1,w1⟩;refine xEq hp (thn (hc pins s1 Z1 H1 _ I1 (turn n Z1 H1 w1)) λb s2 ⟨H2,I2,q2⟩=>?_);cases b with
 | true=>
  obtain⟨N,hN,q2⟩:=q2;rw[xBe rfl];refine xEq hp (thn (hb pins s2 Z1 H2 _ I2 q2) λf s3 q3=>?_);cases f with
  | next=>
   obtain⟨Z3,H3,I3,n3⟩:=q3;obtain⟨m',hm,w3⟩:=hN Z3 H3 n3;exact⟨m',hm,Z3,H3,I3,w3⟩
  | cont=>
   obtain⟨Z3,H3,I3,n3⟩:=q3;obtain⟨m',hm,w3⟩:=hN Z3 H3 n3;exact⟨m',hm,Z3,H3,I3,w3⟩
  | brk=>exact q3
  | ret v=>exact q3
 | false=>
  rw[xAy xAs];exact xGa ⟨Z1,H2,I2,q2⟩
end

structure It where
 go:Nat->Hp->Prop
 yld:Nat->Hp->V->Hp->Prop
 stop:Nat->Hp->Prop
def mU (X:Cx)(pins:xPn)(H:Hp)(b:Addr):Prop:=
 H b=none/\b≠X.env.locals/\b∉X.fs/\(b∈X.ex\/X.s₀.heap.objs.size<=b)/\(∀ x c,X.env.cells.lookup x=some c->c≠b)/\∀ p∈X.pn++pins,p.1≠b
theorem Inv.fpOk {X:Cx}{pins:xPn}{Z:St}{H H':Hp}{s:Shared}{b:Addr}(I:Inv X pins Z H s)(hb:s.heap.objs.size<=b)(hn:H' b=none):mU X pins H' b:=by
 refine⟨hn,xEj (xAq I.lt hb),I.nofs hb,.inr (xAr I.sz hb),λx c e z=>?_,λp hp z=>?_⟩
 ·obtain⟨v,q⟩:=I.cell x c e;exact xBg (xAq q.lt (by rw[z]; exact hb)) (xCm _)
 ·exact xBg (xAq (xAm (I.pin p hp).1) (by rw[z]; exact hb)) (xCm _)
structure aAy (P:Program)(w:World)(K:xAd)(tg:Expr)(J:It)(fp:List Addr)(it:Addr)(tn:Nat->Heap->Prop):Prop where
 mem:it∈fp
 obj:∀ i h,tn i h->∀ b∈fp,∃ o,h.get? b=some o/\∀ v,o.data≠.cell v
 keep:∀ i h h',tn i h->(∀ b∈fp,∀ o,h.get? b=some o->h'.get? b=some o)->tn i h'
 item:∀ (X:Cx),X.prog=P->X.w=w->X.K=K->X.calm=true->∀ (i:Nat) (pins:xPn) (s:Shared) (Z:St) (H:Hp) (E:xVP),Inv X pins Z H s->(∀ b∈fp,mU X pins H b)->tn i s.heap->J.go i H ->
  wpAny (model P w) X.A (pyNext (.ref it)) (λr s1=>∃ u,r=some u /\
   wpAny (model P w) X.A (letOwnedTupleGo tg (.ref it) u) (λ_ s2=>∃ x H',Inv X pins Z H' s2/\cJ x u/\J.yld i H x H'/\tn (i+1) s2.heap/\∀ b∈fp,H' b=none) E s1) E s
 done:∀ (X:Cx),X.prog=P->X.w=w->X.K=K->X.calm=true->∀ (i:Nat) (pins:xPn) (s:Shared) (Z:St) (H:Hp) (E:xVP),Inv X pins Z H s->(∀ b∈fp,mU X pins H b)->tn i s.heap->J.stop i H ->
  wpAny (model P w) X.A (pyNext (.ref it)) (λr s1=>r=none/\Inv X pins Z H s1) E s
 self:∀ (A:Around) (i:Nat) (s:Shared) (Q:xVP) (E:xVP),tn i s.heap->Q (.ref it) s->wpAny (model P w) A (pyIter (.ref it)) Q E s
abbrev TI:=St->Hp->(It->Hp->Prop)->Prop
def PIE (X:Cx)(pins:xPn)(Z:St)(tg:Expr)(R:It->Hp->Prop)(itv:Value)(s2:Shared):Prop:=
 ∃ (it:Addr) (fp:List Addr) (tn:Nat->Heap->Prop) (J:It) (H':Hp),itv=.ref it/\Inv X pins Z H' s2/\aAy X.prog X.w X.K tg J fp it tn/\tn 0 s2.heap/\(∀ b∈fp,mU X pins H' b)/\R J H'
def PI (X:Cx)(tg iter:Expr)(wi:TI):Prop:=
 ∀ (pins:xPn) (s:Shared) (Z:St) (H:Hp) (R:It->Hp->Prop),Inv X pins Z H s->wi Z H R ->
  wpAny (model X.prog X.w) X.A (eval iter X.env) (λv s1=>wpAny (model X.prog X.w) X.A (pyIter v) (PIE X pins Z tg R) X.xe s1) X.xe s

theorem aFb {M:Model}{A:Around}{E:xVP}{s:Shared}{tg:Expr}{it:Addr}{u:Value}{o:Obj}{n:String}{vs:Array Value}{Q:Unit->Shared->Prop}(ho:s.heap.get? it=some o)(hc:o.cls=.type n)(hd:o.data=.fields vs)
  (hn:["enumerate","zip","dict_itemiterator","dict_reverseitemiterator","odict_iterator","itertools.zip_longest","itertools.pairwise"].contains n=false)(hQ:Q () s):wpAny M A (letOwnedTupleGo tg (.ref it) u) Q E s:=by
 unfold letOwnedTupleGo
 cases tg <;> first
  | exact xAe hQ
  | (cases u <;> first
    | exact xAe hQ
    | (refine xAb (wpAny_load ho ?_)
       rw[hc,hd];show wpAny M A (if (["enumerate","zip","dict_itemiterator","dict_reverseitemiterator","odict_iterator","itertools.zip_longest","itertools.pairwise"].contains n&&vs[0]?==some (rawInt _))=true then _ else _) Q E s
       rw[xAy (by intro h; rw[hn,xFo] at h; cases h)];exact xAe hQ))

def Itl (K:xAd)(a:Addr):It:=
 ⟨λi H=>∃ xs x,SqL K H a xs/\xs[i]?=some x,λi H x H'=>H'=H/\∀ xs,SqL K H a xs->xs[i]?=some x,λi H=>∃ xs,SqL K H a xs/\xs.length<=i⟩
def Itr (lo:Int)(n:Nat):It:=⟨λi _=>i<n,λi H x H'=>H'=H/\x=.int (lo+i),λi _=>n<=i⟩
theorem aFq {P:Program}{w:World}{K:xAd}{tg:Expr}(a it:Addr):aAy P w K tg (Itl K a) [it] it (λi h=>h.IsListIter it a i) where
 mem:=by simp
 obj:=λi h st b hb=>by
  have e:b=it:=by simpa using hb
  subst e;obtain⟨o,e,c,d⟩:=st;exact⟨o,e,λv z=>by rw[d] at z; cases z⟩
 keep:=λi h h' st k=>st.at λo e=>k it (by simp) o e
 item:=by
  intro X hP hw hK hc i pins s Z H E I hf st hg;subst hP hw hK;obtain⟨xs,x,hq,hx⟩:=hg;obtain⟨its,rv,p,hz⟩:=I.list hq;obtain⟨u,hu,ru⟩:=rv.get hx;obtain⟨f0,f1,f2,f3,f4,f5⟩:=hf it (by simp);refine xJm st p.isList (x:=u) (by simpa using hu) λh' st' sb=>?_;have I1:Inv X pins Z H { s with heap:=h' }:=I.turned (t':=s.toks) (λb o hb e=>(sb.2 b hb).trans e) f0 f1 f3 f4 f5;obtain⟨o,e,c,d⟩:=id st';exact⟨u,rfl,aFb (s:={ s with heap:=h' }) e c d (by decide) ⟨x,H,I1,ru,⟨rfl,λys hy=>by rw[I.list_inj hy hq]; exact hx⟩,st',λb hb=>(hf b hb).1⟩⟩
 done:=by
  intro X hP hw hK hc i pins s Z H E I hf st hg;subst hP hw hK;obtain⟨xs,hq,hx⟩:=hg;obtain⟨its,rv,p,hz⟩:=I.list hq;obtain⟨f0,f1,f2,f3,f4,f5⟩:=hf it (by simp);have hl:=rv.length;exact xJq (I.ok.hd hc) st p.isList (by simp; omega) λh' eb=>⟨rfl,I.turned (t':=s.toks) (λb o hb e=>eb b o hb e) f0 f1 f3 f4 f5⟩
 self:=λ_ _ _ _ _ st h=>wpAny_pyIter_listiter st h
theorem aBk {P:Program}{w:World}{K:xAd}{tg:Expr}(it:Addr)(lo:Int)(n:Nat):aAy P w K tg (Itr lo n) [it] it (λi h=>IsRangeIter h it (lo+(i:Nat)*1) ((n:Int)-(i:Nat)) 1) where
 mem:=by simp
 obj:=λi h st b hb=>by
  have e:b=it:=by simpa using hb
  subst e
  exact⟨_,st,λv z=>by
   have z':Data.fields _=Data.cell v:=z;cases z'⟩
 keep:=λi h h' st k=>k it (by simp) _ st
 item:=by
  intro X hP hw hK hc i pins s Z H E I hf st hg;subst hP hw hK;obtain⟨f0,f1,f2,f3,f4,f5⟩:=hf it (by simp);have W:=Walks.range (prog:=X.prog) (w:=X.w) (I.ok.hd hc) it lo 1 n;refine W.item i s _ _ hg st λv h' tk hv st' kk=>?_;obtain⟨t,rfl⟩:=hv;have I1:Inv X pins Z H { s with heap:=h',toks:=tk }:=I.turned (λb o hb e=>kk b o (by simpa using hb) e) f0 f1 f3 f4 f5;refine⟨_,rfl,aFb (s:={ s with heap:=h',toks:=tk }) (n:="range_iterator") st' rfl rfl (by decide) ⟨.int (lo+i),H,I1,⟨t,?_⟩,⟨rfl,rfl⟩,st',λb hb=>(hf b hb).1⟩⟩;rw[Int.mul_one]
 done:=by
  intro X hP hw hK hc i pins s Z H E I hf st hg;subst hP hw hK;obtain⟨f0,f1,f2,f3,f4,f5⟩:=hf it (by simp);exact wpAny_pyNext_range_end (I.ok.hd hc) st (by have:n<=i:=hg; omega) λh' eb=>⟨rfl,I.turned (t':=s.toks) (λb o hb e=>eb b o hb e) f0 f1 f3 f4 f5⟩
 self:=λ_ _ _ _ _ st h=>wpAny_pyIter_rangeiter st h
section
variable {X:Cx}{tg:Expr}
inductive aXw (K:xAd)(x:V)(H1:Hp)(R:It->Hp->Prop):Prop
 | mk (a:Addr)(h1:x=.ref a)(h2:∃ xs,SqL K H1 a xs)(r:R (Itl K a) H1)
def aUl (K:xAd)(tl:TE):TI:=λZ H R=>tl Z H λx H1=>aXw K x H1 R
theorem cS {l:Expr}{tl:TE}(hl:PE X l tl):PI X tg l (aUl X.K tl):=by
 intro pins s Z H R I h;refine thn (hl pins s Z H _ I h) λv s1 ⟨x,H1,I1,r1,q1⟩=>?_;obtain⟨a,e,⟨xs,hq⟩,q⟩:=q1;subst e;cases r1;obtain⟨its,rv,p,hz⟩:=I1.list hq;refine xEu p.isList ?_;refine⟨s1.heap.objs.size,[s1.heap.objs.size],_,_,H1,rfl,I1.kept (t':=s1.toks) λb o e=>xAf _ e,aFq a _,⟨_,xAk _ rfl,rfl,rfl⟩,λb hb=>?_,q⟩;have e:b=s1.heap.objs.size:=by simpa using hb
 subst e;exact I1.fpOk (xAi _) (I1.hok.fresh (xAi _))
theorem zE {pins:xPn}{Z:St}{H:Hp}{s:Shared}{R:It->Hp->Prop}{E:xVP}{lo hi:Int}{t u v:Tok}{tk:Nat}(I:Inv X pins Z H s)(h1:-(2^62)<=lo)(h2:lo<2^62)(h3:-(2^62)<=hi)(h4:hi<2^62)
  (q:R (Itr lo (hi-lo).toNat) H):wpAny (model X.prog X.w) X.A (pyIter (.ref s.heap.objs.size)) (PIE X pins Z tg R) E { s with heap:=s.heap.push { cls:=.type "range",data:=.fields #[.int lo t,.int hi u,.int 1 v] },toks:=tk }:=by
 refine wpAny_pyIter_range (IsRange.new ..) (small_one h1 h2 h3 h4) ?_;have I1:Inv X pins Z H { s with heap:=s.heap.push { cls:=.type "range",data:=.fields #[.int lo t,.int hi u,.int 1 v] },toks:=tk }:=I.kept λb o e=>xAf _ e
 refine⟨(s.heap.push { cls:=.type "range",data:=.fields #[.int lo t,.int hi u,.int 1 v] }).objs.size,[(s.heap.push { cls:=.type "range",data:=.fields #[.int lo t,.int hi u,.int 1 v] }).objs.size],_,_,H,rfl,
  I1.kept (t':=tk) λb o e=>xAf _ e,aBk _ lo (hi-lo).toNat,?_,λb hb=>?_,q⟩
 ·have e1:lo+((0:Nat):Int)*1=lo:=by simp
  have e2:(((hi-lo).toNat:Nat):Int)-((0:Nat):Int)=Builtin.Range.rangeSize lo hi 1:=by rw[rangeSize_one]; split <;> omega
  show IsRangeIter _ _ (lo+((0:Nat):Int)*1) ((((hi-lo).toNat:Nat):Int)-((0:Nat):Int)) 1;rw[e1,e2];exact xAk _ rfl
 ·have e:b=(s.heap.push { cls:=.type "range",data:=.fields #[.int lo t,.int hi u,.int 1 v] }).objs.size:=by simpa using hb
  subst e;exact I1.fpOk (xAi _) (I1.hok.fresh (xAi _))
inductive aXv (vs:List V)(H1:Hp)(R:It->Hp->Prop):Prop
 | mk (j:Int)(h1:vs=[.int j])(h2:-(2^62)<=j)(h3:j<2^62)(r:R (Itr 0 j.toNat) H1)
def aUk (ta:TA):TI:=λZ H R=>ta Z H λvs H1=>aXv vs H1 R
def aUj (ta:TA):TI:=λZ H R=>ta Z H λvs H1=>∃ i j:Int,vs=[.int i,.int j]/\(-(2^62)<=i/\i<2^62/\-(2^62)<=j/\j<2^62)/\R (Itr i (j-i).toNat) H1
theorem gN {a:Expr}{ta:TA}{p pos:Pos}(hg:Gl X "range")(hm:X.mg "range" = none)(ha:PA X [a] ta)(hs:starEach [a] X.env=[(false,eval a X.env)]:=by rfl):PI X tg (.Call (.Name "range" p) [a] [] pos) (aUk ta):=by
 intro pins s Z H R I h;refine Call_ (lQ I hg hm boot_range (xDc (thn (ha pos pins s Z H _ I h) λus s1 ⟨vs,H1,I1,r1,q1⟩=>?_) hs rfl));obtain⟨j,e,q1,q2,q⟩:=q1;subst e;cases r1 with
 | cons r rr=>
  cases rr;obtain⟨t,rfl⟩:=r;exact call_range_1 (zE I1 (by omega) (by omega) q1 q2 (by simpa using q))
theorem aGh {a b:Expr}{ta:TA}{p pos:Pos}(hg:Gl X "range")(hm:X.mg "range" = none)(ha:PA X [a,b] ta)(hs:starEach [a,b] X.env=[(false,eval a X.env),(false,eval b X.env)]:=by rfl)(hs2:starEach [b] X.env=[(false,eval b X.env)]:=by rfl) :
  PI X tg (.Call (.Name "range" p) [a,b] [] pos) (aUj ta):=by
 intro pins s Z H R I h;refine Call_ (lQ I hg hm boot_range (xDc (thn (ha pos pins s Z H _ I h) λus s1 ⟨vs,H1,I1,r1,q1⟩=>?_) (by rw[hs,hs2]) (by rw[hs2]; rfl)));obtain⟨i,j,e,⟨q1,q2,q3,q4⟩,q⟩:=q1;subst e;cases r1 with
 | cons r rr=>
  cases rr with
  | cons r' rr=>
   cases rr;obtain⟨t,rfl⟩:=r;obtain⟨t',rfl⟩:=r';exact call_range_2 (zE I1 q1 q2 q3 q4 q)

def aVt (wi:TI)(g:TG)(tb:TS):TS:=λD Z H=>wi Z H λJ H1=>∃ W:Nat->Nat->St->Hp->Prop,(∃ m,W 0 m Z H1)/\∀ i m Z H,W i m Z H ->
 (J.stop i H/\D.nx Z H)\/(J.go i H/\∃ N:St->Hp->Prop,(∀ Z' H',N Z' H'->∃ m',m'<m/\W (i+1) m' Z' H')/\∀ x H',J.yld i H x H'->g x Z H' λZ2 H2=>tb { D with nx:=N,ct:=N,bk:=D.nx } Z2 H2)
def tI (fp:List Addr)(h:Heap):List (Addr×Obj):=fp.filterMap λb=>(h.get? b).map λo=>(b,o)
theorem kO {fp:List Addr}{h:Heap}{b:Addr}{o:Obj}(hb:b∈fp)(e:h.get? b=some o):(b,o)∈tI fp h:=xBz.mpr ⟨b,hb,by rw[e]; rfl⟩
theorem aGy {fp:List Addr}{h:Heap}{p:Addr×Obj}(hp:p∈tI fp h):p.1∈fp/\h.get? p.1=some p.2:=by
 obtain⟨b,hb,e⟩:=xBz.mp hp;cases q:h.get? b with
 | none=>rw[q] at e; cases e
 | some o=>
  rw[q] at e;have e':(b,o)=p:=xBp e;subst e';exact⟨hb,q⟩
theorem Inv.pinned {pins:xPn}{Z:St}{H:Hp}{s:Shared}{fp:List Addr}(I:Inv X pins Z H s)(hf:∀ b∈fp,mU X pins H b)(ho:∀ b∈fp,∃ o,s.heap.get? b=some o/\∀ v,o.data≠.cell v):Inv X (pins++tI fp s.heap) Z H s:=
 I.pins_of λp hp=>(xCp.mp hp).elim (λz=>I.pin p (xBs _ z)) λz=>by
  obtain⟨hb,e⟩:=aGy z;obtain⟨f0,f1,f2,_⟩:=hf p.1 hb;obtain⟨o,e',d⟩:=ho p.1 hb;rw[e] at e'; cases e';exact⟨e,f0,f1,f2,d⟩
theorem Inv.unpinned {pins pl:xPn}{Z:St}{H:Hp}{s:Shared}(I:Inv X (pins++pl) Z H s):Inv X pins Z H s:=I.pins_of λp hp=>I.pin p (xBs _ (xDk _ hp))
theorem dI {iter:Expr}{body:List Stmt}{wi:TI}{g:TG}{tb:TS}{pos:Pos}(hp:PassesOwn (model X.prog X.w) X.A X.env X.xe)(hc:X.calm=true)(hi:PI X tg iter wi)(hg:PG X tg g)(hb:PSs X body tb)
  (hs:∀ x,foldedSetIterable iter X.env x=pure x:=by intro _; rfl):PS X (.For tg iter body [] pos) (aVt wi g tb):=by
 intro pins s Z H D I h;refine wpAny_For (thn (hi pins s Z H _ I h) λv s1 h1=>thn h1 λitv s2 h2=>?_) hs;obtain⟨it,fp,tn,J,H2,e,I2,T,st2,f2,W,⟨m0,w0⟩,turn⟩:=h2;subst e
 -- what stays true of the iterator's objects through the loop
 have stat:∀ {H':Hp},(∀ b∈fp,H' b=none)->∀ b∈fp,mU X pins H' b:=λhn b hb=>⟨hn b hb,(f2 b hb).2⟩;refine codeAny_forLoop_any (λn s'=>∃ i Z' H',Inv X pins Z' H' s'/\tn i s'.heap/\(∀ b∈fp,H' b=none)/\W i n Z' H') ?_ m0 ⟨0,Z,H2,I2,st2,λb hb=>(f2 b hb).1,w0⟩;rintro n s3 ⟨i,Z3,H3,I3,st3,fr3,w3⟩;rcases turn i n Z3 H3 w3 with⟨stop,qn⟩ | ⟨go,N,hN,step⟩
 ·refine xEq hp (thn (T.done X rfl rfl rfl hc i pins s3 Z3 H3 X.xe I3 (stat fr3) st3 stop) λr s4 ⟨hr,I4⟩=>?_);subst hr;exact xGa ⟨Z3,H3,I4,qn⟩
 ·refine xEq hp (thn (T.item X rfl rfl rfl hc i pins s3 Z3 H3 X.xe I3 (stat fr3) st3 go) λr s4 ⟨u,hr,h4⟩=>?_);subst hr;refine xEq hp (thn h4 λ_ s5 ⟨x,H5,I5,r5,y5,st5,fr5⟩=>?_);have I5':=I5.pinned (stat fr5) (T.obj _ _ st5);refine xEq hp (thn (hg _ s5 Z3 H5 x u _ I5' r5 (step x H5 y5)) λ_ s6 ⟨Z6,H6,I6,q6⟩=>?_);refine xEq hp (thn (hb _ s6 Z6 H6 _ I6 q6) λf s7 q7=>?_)
  have again:∀ {Z7:St}{H7:Hp},Inv X (pins++tI fp s5.heap) Z7 H7 s7->N Z7 H7->∃ m,m<n/\∃ i Z' H',Inv X pins Z' H' s7/\tn i s7.heap/\(∀ b∈fp,H' b=none)/\W i m Z' H':=λ{Z7 H7} I7 n7=>by
   obtain⟨m',hm,w7⟩:=hN Z7 H7 n7;refine⟨m',hm,i+1,Z7,H7,I7.unpinned,T.keep _ _ _ st5 λb hb o e=>(I7.pin (b,o) (xBs _ (xBs _ (kO hb e)))).1,λb hb=>?_,w7⟩;obtain⟨o,e,d⟩:=T.obj _ _ st5 b hb;exact (I7.pin (b,o) (xBs _ (xBs _ (kO hb e)))).2.1
  cases f with
  | next=>obtain⟨Z7,H7,I7,n7⟩:=q7; exact again I7 n7
  | cont=>obtain⟨Z7,H7,I7,n7⟩:=q7; exact again I7 n7
  | brk=>obtain⟨Z7,H7,I7,q7⟩:=q7; exact⟨Z7,H7,I7.unpinned,q7⟩
  | ret v=>obtain⟨x7,Z7,H7,I7,r7,q7⟩:=q7; exact⟨x7,Z7,H7,I7.unpinned,r7,q7⟩
end

theorem dH {K:xAd}{a:Addr}{xs:List V}{g:TG}{tb:TS}{D:rV}{Z:St}{H:Hp}(Pv:Nat->St->Hp->Prop)(h0:Pv 0 Z H)(hl:∀ i Z H,i<=xs.length->Pv i Z H->SqL K H a xs)
  (hs:∀ i x Z H,xs[i]?=some x->Pv i Z H->g x Z H λZ2 H2=>tb { D with nx:=Pv (i+1),ct:=Pv (i+1),bk:=D.nx } Z2 H2)(hd:∀ Z H,Pv xs.length Z H->D.nx Z H) :
  ∃ W:Nat->Nat->St->Hp->Prop,(∃ m,W 0 m Z H)/\∀ i m Z H,W i m Z H ->
   ((Itl K a).stop i H/\D.nx Z H)\/((Itl K a).go i H/\∃ N:St->Hp->Prop,(∀ Z' H',N Z' H'->∃ m',m'<m/\W (i+1) m' Z' H')/\∀ x H',(Itl K a).yld i H x H'->g x Z H' λZ2 H2=>tb { D with nx:=N,ct:=N,bk:=D.nx } Z2 H2):=by
 refine⟨λi m Z H=>m=xs.length-i/\i<=xs.length/\Pv i Z H,⟨xs.length,by simp,xCa _,h0⟩,?_⟩;rintro i m Z H ⟨rfl,hi,p⟩;have q:=hl i Z H hi p
 by_cases hlt:i<xs.length
 ·refine .inr ⟨⟨xs,xs[i],q,by simp[hlt]⟩,Pv (i+1),λZ' H' p'=>⟨xs.length-(i+1),by omega,rfl,hlt,p'⟩,λx H' y=>?_⟩;obtain⟨e,y⟩:=y;subst e;exact hs i x Z _ (y xs q) p
 ·have e:i=xs.length:=by omega
  subst e;exact .inl ⟨⟨xs,q,xAi _⟩,hd Z H p⟩
theorem qW {lo:Int}{n:Nat}{g:TG}{tb:TS}{D:rV}{Z:St}{H:Hp}(Pv:Nat->St->Hp->Prop)(h0:Pv 0 Z H)
  (hs:∀ i Z H,i<n->Pv i Z H->g (.int (lo+i)) Z H λZ2 H2=>tb { D with nx:=Pv (i+1),ct:=Pv (i+1),bk:=D.nx } Z2 H2)(hd:∀ Z H,Pv n Z H->D.nx Z H) :
  ∃ W:Nat->Nat->St->Hp->Prop,(∃ m,W 0 m Z H)/\∀ i m Z H,W i m Z H ->
   ((Itr lo n).stop i H/\D.nx Z H)\/((Itr lo n).go i H/\∃ N:St->Hp->Prop,(∀ Z' H',N Z' H'->∃ m',m'<m/\W (i+1) m' Z' H')/\∀ x H',(Itr lo n).yld i H x H'->g x Z H' λZ2 H2=>tb { D with nx:=N,ct:=N,bk:=D.nx } Z2 H2):=by
 refine⟨λi m Z H=>m=n-i/\i<=n/\Pv i Z H,⟨n,by simp,xCa _,h0⟩,?_⟩;rintro i m Z H ⟨rfl,hi,p⟩
 by_cases hlt:i<n
 ·refine .inr ⟨hlt,Pv (i+1),λZ' H' p'=>⟨n-(i+1),by omega,rfl,hlt,p'⟩,λx H' y=>?_⟩;obtain⟨e,y⟩:=y;subst e y;exact hs i Z _ hlt p
 ·have e:i=n:=by omega
  subst e;exact .inl ⟨xAi _,hd Z H p⟩

abbrev R2:=V->V->Hp->VK->Prop
def OpR (X:Cx)(f:Value->Value->Sem Value)(r:R2):Prop:=
 ∀ (pins:xPn) (s:Shared) (Z:St) (H:Hp) (x y:V) (v u:Value) (Q:VK),Inv X pins Z H s->cJ x v->cJ y u->r x y H Q ->
  wpAny (model X.prog X.w) X.A (f v u) (EP X pins Z Q) X.xe s
def CallR (X:Cx)(f:Value)(r:List V->Hp->VK->Prop):Prop:=
 ∀ (pins:xPn) (s:Shared) (Z:St) (H:Hp) (xs:List V) (us:List Value) (Q:VK),Inv X pins Z H s->bZ xs us->r xs H Q ->
  wpAny (model X.prog X.w) X.A (call f us) (EP X pins Z Q) X.xe s
def aXq (X:Cx)(r:V->Hp->(Bool->Hp->Prop)->Prop):Prop:=
 ∀ (pins:xPn) (s:Shared) (Z:St) (H:Hp) (x:V) (v:Value) (Q:Bool->Hp->Prop),Inv X pins Z H s->cJ x v->r x H Q ->
  wpAny (model X.prog X.w) X.A (truthy v) (TP X pins Z Q) X.xe s

def tOp (r:R2)(ta tb:TE):TE:=λZ H Q=>ta Z H λx H1=>tb Z H1 λy H2=>r x y H2 Q
def tUn (r:V->Hp->VK->Prop)(ta:TE):TE:=λZ H Q=>ta Z H λx H1=>r x H1 Q
inductive rI (C:Int->Int->Prop)(g:Int->Int->V)(x:V)(y:V)(H:Hp)(Q:VK):Prop
 | mk (i:_)(j:_)(h0_:x=.int i)(h1_:y=.int j)(h2_:C i j)(h3_:Q (g i j) H)
inductive rI0 (g:Int->Int->V)(x:V)(y:V)(H:Hp)(Q:VK):Prop
 | mk (i:_)(j:_)(h0_:x=.int i)(h1_:y=.int j)(h2_:Q (g i j) H)

section
variable {X:Cx}{a b c:Expr}{ta tb tc:TE}{pos:Pos}

theorem aSl (ha:PE X a ta)(hb:PE X b tb){pins:xPn}{s:Shared}{Z:St}{H:Hp}{R:V->V->Hp->Prop}(I:Inv X pins Z H s)
  (h:ta Z H λx H1=>tb Z H1 λy H2=>R x y H2){Q:xVP}{f:Value->Value->Sem Value}
  (hf:∀ v u s2 x y H2,Inv X pins Z H2 s2->cJ x v->cJ y u->R x y H2->wpAny (model X.prog X.w) X.A (f v u) Q X.xe s2) :
  wpAny (model X.prog X.w) X.A (eval a X.env) (λv s₁=>wpAny (model X.prog X.w) X.A (eval b X.env) (λu s₂=>wpAny (model X.prog X.w) X.A (f v u) Q X.xe s₂) X.xe s₁) X.xe s:=by
 refine thn (ha pins s Z H _ I h) λv s1 ⟨x,H1,I1,r1,q1⟩=>?_;refine thn (hb pins s1 Z H1 _ I1 q1) λu s2 ⟨y,H2,I2,r2,q2⟩=>?_;exact hf v u s2 x y H2 I2 r1 r2 q2

theorem aX {op:Operator}{r:R2}(ho:OpR X (binaryOp op) r)(ha:PE X a ta)(hb:PE X b tb):PE X (.BinOp a op b pos) (tOp r ta tb):=by
 intro pins s Z H Q I h;exact wpAny_BinOp (aSl ha hb I h λv u s2 x y H2 I2 rx ry q=>ho pins s2 Z H2 x y v u Q I2 rx ry q)

theorem opI {f:Value->Value->Sem Value}{C:Int->Int->Prop}{g:Int->Int->Int}
  (rule:∀ (i j:Int) (t u:Tok) (s:Shared) (Q:xVP) (E:xVP),C i j->Q (.int (g i j) s.toks) { s with toks:=s.toks+1 }->wpAny (model X.prog X.w) X.A (f (.int i t) (.int j u)) Q E s) :
  OpR X f (rI C λi j=>.int (g i j)):=by
 intro pins s Z H x y v u Q I rx ry h;obtain⟨i,j,rfl,rfl,hc,q⟩:=h;obtain⟨t,rfl⟩:=rx;obtain⟨t',rfl⟩:=ry;exact rule i j t t' s _ _ hc ⟨.int (g i j),H,I.tok _,⟨_,rfl⟩,q⟩
theorem aTv {f:Value->Value->Sem Value}{g:Int->Int->Int}
  (rule:∀ (i j:Int) (t u:Tok) (s:Shared) (Q:xVP) (E:xVP),Q (.int (g i j) s.toks) { s with toks:=s.toks+1 }->wpAny (model X.prog X.w) X.A (f (.int i t) (.int j u)) Q E s) :
  OpR X f (rI0 λi j=>.int (g i j)):=by
 intro pins s Z H x y v u Q I rx ry h;obtain⟨i,j,rfl,rfl,q⟩:=h;obtain⟨t,rfl⟩:=rx;obtain⟨t',rfl⟩:=ry;exact rule i j t t' s _ _ ⟨.int (g i j),H,I.tok _,⟨_,rfl⟩,q⟩
theorem aRo {f:Value->Value->Sem Value}{g:Int->Int->Bool}
  (rule:∀ (i j:Int) (t u:Tok) (s:Shared) (Q:xVP) (E:xVP),Q (.bool (g i j)) s->wpAny (model X.prog X.w) X.A (f (.int i t) (.int j u)) Q E s) :
  OpR X f (rI0 λi j=>.bl (g i j)):=by
 intro pins s Z H x y v u Q I rx ry h;obtain⟨i,j,rfl,rfl,q⟩:=h;obtain⟨t,rfl⟩:=rx;obtain⟨t',rfl⟩:=ry;exact rule i j t t' s _ _ ⟨.bl (g i j),H,I,rfl,q⟩

def aXz (i j:Int):Prop:=0<j/\j<1073741824
def aSv (i j:Int):Prop:=(-(2^64)<i/\i<2^64)\/(-(2^64)<j/\j<2^64)
theorem aSv.ok {i j:Int}(h:aSv i j):IntMulOk i j:=by
 rcases h with⟨h1,h2⟩ | ⟨h1,h2⟩
 ·exact .of_left (intBits_le_64 h1 h2)
 ·exact .of_right (intBits_le_64 h1 h2)

theorem dY:OpR X (binaryOp .Add) (rI0 λi j=>.int (i+j)):=aTv λ_ _ _ _ _ _ _ q=>add_int q
theorem aRm:OpR X (binaryOp .Sub) (rI0 λi j=>.int (i-j)):=aTv λ_ _ _ _ _ _ _ q=>sub_int q
theorem nX:OpR X (binaryOp .Mult) (rI aSv λi j=>.int (i*j)):=opI λ_ _ _ _ _ _ _ hc q=>mul_int q hc.ok
theorem fJ:OpR X (binaryOp .FloorDiv) (rI aXz λi j=>.int (i/j)):=opI λi j _ _ _ _ _ hc q=>by
 have h1:(0:Int)<j:=hc.1;have h2:j<1073741824:=hc.2;exact floordiv_int (by omega) (by rw[Int.fdiv_eq_ediv_of_nonneg i (by omega)]; exact q) (.inl (PyProof.noPylong_small (by omega)))
theorem dD:OpR X (binaryOp .Mod) (rI (λ_ j=>0<j) λi j=>.int (i%j)):=opI λi j _ _ _ _ _ hc q=>by
 have h1:(0:Int)<j:=hc;exact mod_int' (by omega) (by rw[Int.fmod_eq_emod_of_nonneg i (by omega)]; exact q)



end

def aTj:V->V->Bool
 | .non,.non=>true | .non,.int _=>true | .int _,.non=>true | .non,.bl _=>true | .bl _,.non=>true | .non,.str _=>true | .str _,.non=>true
 | .int _,.int _=>true | .bl _,.bl _=>true | .str _,.str _=>true | .byt _,.byt _=>true
 | .int _,.str _=>true | .str _,.int _=>true | .bl _,.str _=>true | .str _,.bl _=>true
 | _,_=>false
def rEq:R2:=λx y H Q=>aTj x y=true/\Q (.bl (decide (x=y))) H
def rNe:R2:=λx y H Q=>aTj x y=true/\Q (.bl (!decide (x=y))) H

theorem aFe {i j:Int}:decide (V.int i=V.int j)=(i==j):=by
 rw[xEi]
 simp
theorem aMj {i j:Bool}:decide (V.bl i=V.bl j)=(i==j):=by
 rw[xEi]
 simp
theorem aFd {i j:Str}:decide (V.str i=V.str j)=(i==j):=by
 rw[xEi]
 simp
theorem aFf {i j:Array UInt8}:decide (V.byt i=V.byt j)=(i.toList==j.toList):=by
 rw[xEi];cases i;cases j
 simp

section
variable {X:Cx}{a b c:Expr}{ta tb tc:TE}{pos:Pos}
theorem cQ {pins:xPn}{Z:St}{H:Hp}{s:Shared}{Q:VK}{k k':Bool}(I:Inv X pins Z H s)(q:Q (.bl k) H)(e:k=k'):EP X pins Z Q (.bool k') s:=by
 subst e;exact⟨.bl k,H,I,rfl,q⟩
theorem pC:OpR X (compareOp .Eq) rEq:=by
 intro pins s Z H x y v u Q I rx ry h;obtain⟨hs,q⟩:=h;cases x with
 | non=>
  cases rx;cases y with
  | non=>cases ry; exact PySem.EqNone.eq_none_none (cQ I q (by simp))
  | bl j=>cases ry; exact PySem.EqNone.eq_none_bool (cQ I q (by simp))
  | int j=>obtain⟨t',rfl⟩:=ry; exact PySem.EqNone.eq_none_int (cQ I q (by simp))
  | str j=>obtain⟨t',rfl⟩:=ry; exact PySem.EqNone.eq_none_str (cQ I q (by simp))
  | _=>exact xBg (show false=true from hs) xAs
 | bl i=>
  cases rx;cases y with
  | non=>cases ry; exact PySem.EqNone.eq_bool_none (cQ I q (by simp))
  | bl j=>cases ry; exact eq_bool (cQ I q aMj)
  | str j=>obtain⟨t',rfl⟩:=ry; exact PySem.EqMixed.eq_bool_str (cQ I q (by simp))
  | _=>exact xBg (show false=true from hs) xAs
 | int i=>
  obtain⟨t,rfl⟩:=rx;cases y with
  | non=>cases ry; exact PySem.EqNone.eq_int_none (cQ I q (by simp))
  | int j=>obtain⟨t',rfl⟩:=ry; exact eq_int (cQ I q aFe)
  | str j=>obtain⟨t',rfl⟩:=ry; exact PySem.EqMixed.eq_int_str (cQ I q (by simp))
  | _=>exact xBg (show false=true from hs) xAs
 | str i=>
  obtain⟨t,rfl⟩:=rx;cases y with
  | non=>cases ry; exact PySem.EqNone.eq_str_none (cQ I q (by simp))
  | bl j=>cases ry; exact PySem.EqMixed.eq_str_bool (cQ I q (by simp))
  | int j=>obtain⟨t',rfl⟩:=ry; exact PySem.EqMixed.eq_str_int (cQ I q (by simp))
  | str j=>obtain⟨t',rfl⟩:=ry; exact eq_str (cQ I q aFd)
  | _=>exact xBg (show false=true from hs) xAs
 | byt i=>
  obtain⟨t,rfl⟩:=rx;cases y with
  | byt j=>obtain⟨t',rfl⟩:=ry; exact eq_bytes (cQ I q aFf)
  | _=>exact xBg (show false=true from hs) xAs
 | _=>cases y <;> exact xBg (show false=true from hs) xAs
theorem aKm:OpR X (compareOp .NotEq) rNe:=by
 intro pins s Z H x y v u Q I rx ry h;obtain⟨hs,q⟩:=h;cases x with
 | non=>
  cases rx;cases y with
  | non=>cases ry; exact PySem.EqNone.ne_none_none (cQ I q (by simp))
  | bl j=>cases ry; exact PySem.EqNone.ne_none_bool (cQ I q (by simp))
  | int j=>obtain⟨t',rfl⟩:=ry; exact PySem.EqNone.ne_none_int (cQ I q (by simp))
  | str j=>obtain⟨t',rfl⟩:=ry; exact PySem.EqNone.ne_none_str (cQ I q (by simp))
  | _=>exact xBg (show false=true from hs) xAs
 | bl i=>
  cases rx;cases y with
  | non=>cases ry; exact PySem.EqNone.ne_bool_none (cQ I q (by simp))
  | bl j=>cases ry; exact ne_bool (cQ I q (congrArg not aMj))
  | str j=>obtain⟨t',rfl⟩:=ry; exact PySem.EqMixed.ne_bool_str (cQ I q (by simp))
  | _=>exact xBg (show false=true from hs) xAs
 | int i=>
  obtain⟨t,rfl⟩:=rx;cases y with
  | non=>cases ry; exact PySem.EqNone.ne_int_none (cQ I q (by simp))
  | int j=>obtain⟨t',rfl⟩:=ry; exact ne_int (cQ I q (congrArg not aFe))
  | str j=>obtain⟨t',rfl⟩:=ry; exact PySem.EqMixed.ne_int_str (cQ I q (by simp))
  | _=>exact xBg (show false=true from hs) xAs
 | str i=>
  obtain⟨t,rfl⟩:=rx;cases y with
  | non=>cases ry; exact PySem.EqNone.ne_str_none (cQ I q (by simp))
  | bl j=>cases ry; exact PySem.EqMixed.ne_str_bool (cQ I q (by simp))
  | int j=>obtain⟨t',rfl⟩:=ry; exact PySem.EqMixed.ne_str_int (cQ I q (by simp))
  | str j=>obtain⟨t',rfl⟩:=ry; exact ne_str (cQ I q (congrArg not aFd))
  | _=>exact xBg (show false=true from hs) xAs
 | byt i=>
  obtain⟨t,rfl⟩:=rx;cases y with
  | byt j=>obtain⟨t',rfl⟩:=ry; exact ne_bytes (cQ I q (congrArg not aFf))
  | _=>exact xBg (show false=true from hs) xAs
 | _=>cases y <;> exact xBg (show false=true from hs) xAs

theorem aKn:OpR X (compareOp .Lt) (rI0 λi j=>.bl (decide (i<j))):=aRo λ_ _ _ _ _ _ _ q=>lt_int q
theorem aTu:OpR X (compareOp .LtE) (rI0 λi j=>.bl (decide (i<=j))):=aRo λ_ _ _ _ _ _ _ q=>le_int q
theorem rE:OpR X (compareOp .Gt) (rI0 λi j=>.bl (decide (j<i))):=aRo λ_ _ _ _ _ _ _ q=>gt_int q
theorem vZ:OpR X (compareOp .In) (λx y H Q=>∃ i j,x=.str i/\y=.str j/\Q (.bl (!(Builtin.Str.occurrences j i 0 j.length 1).isEmpty)) H):=by
 intro pins s Z H x y v u Q I rx ry h;obtain⟨i,j,rfl,rfl,q⟩:=h;obtain⟨t,rfl⟩:=rx;obtain⟨t',rfl⟩:=ry;exact in_str (cQ I q rfl)

theorem aKo:OpR X (compareOp .Is) (λx y H Q=>y=.non/\Q (.bl (decide (x=.non))) H):=by
 intro pins s Z H x y v u Q I rx ry h;obtain⟨rfl,q⟩:=h;cases ry;refine is_none_gen (cQ I q ?_)
 cases x <;> first
  | (cases rx; rfl)
  | (obtain⟨t,rfl⟩:=rx; rfl)
theorem xI:OpR X (compareOp .IsNot) (λx y H Q=>y=.non/\Q (.bl (!decide (x=.non))) H):=by
 intro pins s Z H x y v u Q I rx ry h;obtain⟨rfl,q⟩:=h;cases ry;refine isnot_none_gen (cQ I q ?_)
 cases x <;> first
  | (cases rx; rfl)
  | (obtain⟨t,rfl⟩:=rx; rfl)



theorem cO (b:Expr){op:CmpOp}(h:op≠.In:=by decide)(h2:op≠.NotIn:=by decide):behindInMarks op b=false:=by
 have e1:(op==CmpOp.In)=false:=by cases op <;> first | rfl | exact xBg rfl h
 have e2:(op==CmpOp.NotIn)=false:=by cases op <;> first | rfl | exact xBg rfl h2
 cases b <;> simp[behindInMarks,e1,e2]
theorem rY {op:CmpOp}{r:R2}(ho:OpR X (compareOp op) r)(ha:PE X a ta)(hb:PE X b tb)(hm:behindInMarks op b=false):PE X (.Compare a [op] [b] pos) (tOp r ta tb):=by
 intro pins s Z H Q I h;exact wpAny_Compare1 (aSl ha hb I h λv u s2 x y H2 I2 rx ry q=>ho pins s2 Z H2 x y v u Q I2 rx ry q) hm
def aSz (t:TE):TT:=λZ H Q=>t Z H λx H'=>aVi x H' Q
theorem cB {op:CmpOp}{r:R2}(ho:OpR X (compareOp op) r)(ha:PE X a ta)(hb:PE X b tb)(hm:behindInMarks op b=false):PT X (.Compare a [op] [b] pos) (aSz (tOp r ta tb)):=by
 intro pins s Z H Q I h
 refine xJs (thn (ha pins s Z H _ I h) λv s1 ⟨x,H1,I1,r1,q1⟩=>thn (hb pins s1 Z H1 _ I1 q1) λu s2 ⟨y,H2,I2,r2,q2⟩=>
  thn (ho pins s2 Z H2 x y v u _ I2 r1 r2 q2) λc s3 ⟨z,H3,I3,r3,k,e,q3⟩=>?_) hm
 subst e;cases r3;exact xEd ⟨H3,I3,q3⟩

def aUu (K:xAd)(x:V)(H:Hp)(k:Bool):Prop:=
 match x with
 | .non=>k=false
 | .bl b=>k=b
 | .int i=>k=(i != 0)
 | .str y=>y.length<=sizeLine/\k=((y.length:Int) != 0)
 | .byt y=>y.size<=sizeLine/\k=((y.size:Int) != 0)
 | .ref p=>(∃ xs,SqL K H p xs/\k=!xs.isEmpty)\/(∃ xs,SqT K H p xs/\k=!xs.isEmpty)\/∃ kvs,H p=some (.dK kvs)/\k=!kvs.isEmpty
 | _=>False
theorem aDe {κ:Type}{kvs:List (κ×V)}{vs:List (κ×Value)}(r:KV kvs vs):(!vs.isEmpty)=!kvs.isEmpty:=by
 cases r <;> rfl
theorem tX {xs:List V}{its:List Value}(r:bZ xs its):(!its.toArray.isEmpty)=!xs.isEmpty:=by
 cases r <;> simp
theorem qR:(sizeLine:Nat)<2^63:=by rw[sizeLine_eq]; decide
theorem aQp:aXq X (λx H Q=>∃ k,aUu X.K x H k/\Q k H):=by
 intro pins s Z H x v Q I rx h;obtain⟨k,e,q⟩:=h;have hl:=qR;have hs:sizeLine=16777216:=sizeLine_eq;cases x with
 | non=>
  cases rx;have e':k=false:=e;subst e';exact truthy_none ⟨H,I,q⟩
 | bl b=>
  cases rx;have e':k=b:=e;subst e';exact xEd ⟨H,I,q⟩
 | int i=>
  obtain⟨t,rfl⟩:=rx;have e':k=(i != 0):=e;subst e';exact PySem.P.truthy_int ⟨H,I,q⟩
 | str y=>
  obtain⟨t,rfl⟩:=rx;obtain⟨hy,e'⟩:y.length<=sizeLine/\k=((y.length:Int) != 0):=e;subst e';exact PySem.P.truthy_str (by omega) ⟨H,I.tok _,q⟩
 | byt y=>
  obtain⟨t,rfl⟩:=rx;obtain⟨hy,e'⟩:y.size<=sizeLine/\k=((y.size:Int) != 0):=e;subst e';exact truthy_bytes (by omega) ⟨H,I.tok _,q⟩
 | ref p=>
  cases rx;have e':(∃ xs,SqL X.K H p xs/\k=!xs.isEmpty)\/(∃ xs,SqT X.K H p xs/\k=!xs.isEmpty)\/∃ kvs,H p=some (.dK kvs)/\k=!kvs.isEmpty:=e;rcases e' with⟨xs,hx,e'⟩ | ⟨xs,hx,e'⟩ | ⟨kvs,hx,e'⟩
  ·subst e';obtain⟨its,r,pl,hz⟩:=I.list hx;have hlen:=r.length;exact wpAny_truthy_list pl.isList (by simp only[List.size_toArray]; omega) ⟨H,I.tok _,by rw[tX r]; exact q⟩
  ·subst e';obtain⟨its,r,pl,hz⟩:=I.tuple hx;have hlen:=r.length;exact truthy_tuple pl (by simp only[List.size_toArray]; omega) ⟨H,I.tok _,by rw[tX r]; exact q⟩
  ·subst e';obtain⟨hz,hS,vs,r,m⟩:kvs.length<=sizeLine/\(p==sysModules)=false/\∃ vs,KV kvs vs/\s.heap.DictOf (dA X.prog X.w) p vs:=I.hok p _ hx;have hlen:kvs.length=vs.length:=Paired.length r;exact wpAny_truthy_dict hS m (by omega) ⟨H,I.tok _,by rw[aDe r]; exact q⟩
 | _=>exact (show False from e).elim
theorem zH (ha:PE X a ta)(he:∀ whole,isTrue a X.env whole=(do let v <- whole; standAt a.pos; holding [v] (truthy v))) :
  PT X a (λZ H Q=>ta Z H λx H'=>∃ k,aUu X.K x H' k/\Q k H'):=by
 intro pins s Z H Q I h;exact isTrue_plain (thn (ha pins s Z H _ I h) λv s1 ⟨x,H1,I1,r1,q1⟩=>aQp pins s1 Z H1 x v Q I1 r1 q1) (he _)

theorem nY:OpR X (binaryOp .Add) (λx y H Q=>∃ i j,x=.str i/\y=.str j/\i.length+j.length<=sizeLine/\Q (.str (i++j)) H):=by
 intro pins s Z H x y v u Q I rx ry h;obtain⟨i,j,rfl,rfl,hz,q⟩:=h;obtain⟨t,rfl⟩:=rx;obtain⟨t',rfl⟩:=ry;exact add_str (λt' tk=>⟨.str (i++j),H,I.tok _,⟨_,rfl⟩,q⟩) hz


theorem iG {x:V}{us:List Value}(r:bZ [x] us):∃ u,us=[u]/\cJ x u:=by
 cases r with
 | cons r1 r2=>cases r2; exact⟨_,rfl,r1⟩
theorem yE {x y:V}{us:List Value}(r:bZ [x,y] us):∃ u w',us=[u,w']/\cJ x u/\cJ y w':=by
 cases r with
 | cons r1 r2=>
  cases r2 with
  | cons r3 r4=>cases r4; exact⟨_,_,rfl,r1,r3⟩
theorem aHx:CallR X (.type "int") (λxs H Q=>(∃ i,xs=[.int i]/\Q (.int i) H)\/∃ k,xs=[.bl k]/\Q (.int (if k then 1 else 0)) H):=by
 intro pins s Z H xs us Q I r h;rcases h with⟨i,rfl,q⟩ | ⟨k,rfl,q⟩
 ·obtain⟨u,rfl,t,rfl⟩:=iG r;exact call_int_int ⟨.int i,H,I,⟨_,rfl⟩,q⟩
 ·obtain⟨u,rfl,r1⟩:=iG r;cases r1;exact call_int_bool ⟨.int (if k then 1 else 0),H,I.tok _,⟨_,rfl⟩,q⟩
theorem pQ:CallR X (.type "str") (λxs H Q=>∃ i,xs=[.int i]/\i.natAbs.log2<1920/\Q (.str (toString i)) H):=by
 intro pins s Z H xs us Q I r h;obtain⟨i,rfl,hz,q⟩:=h;obtain⟨u,rfl,t,rfl⟩:=iG r;exact PySem.P.str_of_int hz ⟨.str _,H,I.tok _,⟨_,rfl⟩,q⟩
end

structure aDq (h:Heap)(x dx C:Addr)(mA:xSO):Prop where
 obj:h.get? x=some (instObj C dx)
 ns:h.Ns1 dx mA
 ne:dx≠x

theorem aHe {h:Heap}{dx:Addr}{mA:xSO}(n:h.Ns1 dx mA):∃ od,h.get? dx=some od/\∀ name,lookIn name od=some (mA name):=by
 obtain⟨o,es,ep,ho,hd,hk,_,hm⟩:=n;refine⟨o,ho,λname=>?_⟩;have e:=hm name;unfold nsFind findBy at e;rw[<- Array.find?_toList] at e;unfold lookIn;rw[hd];dsimp only;split
 ·rename_i y q
  rw[q] at e;exact congrArg some e
 ·rename_i q
  rw[q] at e
  have a:es.toList.any (·.refKey)=false:=by
   rw[List.any_eq_false];intro y hy;obtain⟨z,t,hkey⟩:=hk y (Array.mem_toList_iff.mp hy);simp[DictEntry.refKey,hkey]
  have a':¬ es.toList.any (·.refKey)=true:=by rw[a]; exact xAs
  rw[xAy a'];exact congrArg some e

theorem aDq.look {h:Heap}{x dx C:Addr}{mA:xSO}(I:aDq h x dx C mA):∃ od,InstAt h x (instObj C dx) C (some od)/\∀ name,lookIn name od=some (mA name):=
 let ⟨od,ho,hl⟩:=aHe I.ns
 ⟨od,⟨I.obj,rfl,rfl,ho⟩,hl⟩

section
variable {prog:Program}{w:World}{A:Around}{E:xVP}{s:Shared}{K:xAd}{x dx C f:Addr}{mA:xSO}{name:Str}{v:Value}

theorem aPe {expr:Bool}{Q:xVP}(X:K.In s.heap)(I:aDq s.heap x dx C mA)(hg:plainGet K C name=true)(hh:hasDictIn K C=true)
  (ha:findIn K (.ref C) name=some none)(hv:mA name=some v)(hv':handedIn v=true)(h:Q v { s with toks:=s.toks+1 }) :
  wpAny (model prog w) A (getAttr (.ref x) name expr) Q E s:=by
 obtain⟨od,J,hl⟩:=I.look;exact get_value X J (xHo hg).1 (findObj_own hh ha rfl (by rw[hl,hv])) hv' h


theorem aMc {pl:Sem Bool}{Q:Value×List Value->Shared->Prop}(X:K.In s.heap)(I:aDq s.heap x dx C mA)(hg:plainGet K C name=true)
  (hf:findIn K (.ref C) name=some (some (.ref f)))(ht:isFn K (.ref f)=true)(hv:mA name=none)(h:Q (.ref f,[.ref x]) s) :
  wpAny (model prog w) A (getMethod (.ref x) name pl) Q E s:=by
 obtain⟨od,J,hl⟩:=I.look;exact method_fn X J (xHo hg).1 (xHo hg).2 hf (xEe.mp ht) (by show (lookIn name od).map (·.isSome)=some false; rw[hl,hv]; rfl) h

theorem aNp {ns:List Str}{Q:Unit->Shared->Prop}(X:K.In s.heap)(I:aDq s.heap x dx C mA)
  (hs:findIn K (.ref C) "__setattr__" = some (some (.builtin "object.__setattr__")))(hp:plainOver K C=true)(ht:takerIn K C name=some none)(hh:hasDictIn K C=true)
  (hw:PySem.Within mA ns)(hsz:ns.length<=sizeLine)
  (h:∀ h',aDq h' x dx C (λy=>if y=name then some v else mA y)->Heap.SameBut dx s.heap h'->Q () { s with heap:=h',toks:=s.toks+2 }) :
  wpAny (model prog w) A (setAttr (.ref x) name v) Q E s:=by
 obtain⟨od,J,hl⟩:=I.look;refine set_plain X J hs (osa_open (s:={ s with toks:=s.toks+1 }) (r:=none) X J hp ht λb=>?_);obtain⟨cd,hc,hd'⟩:=any_some hh;have hx:s.heap.get? x=some ⟨.ref C,some dx,.plain,#[]⟩:=I.obj;refine xAb (xAe (xAb (xAb (wpAny_loadPart hx (xAb (Looks.here (s:={ s with toks:=s.toks+1 }) (looks_clsIn X hc) ?_))))));rw[hd'];refine xAe (a:=some dx) (xAb (xAe (xAb ?_)));refine wpAny_nsSet1 (s:={ s with toks:=s.toks+1 }) I.ns λh' hn2 hs2=>?_;obtain⟨oD,esD,epD,hoD,hdD,hcD⟩:=hn2.count (PySem.Within.cons name v hw);refine xAb (wpAny_lookBehind hoD (by rw[hdD]; exact pastItsLine_dict (xAr hcD (by rw[xBd]; omega))) ?_);exact xAe (h _ ⟨(hs2.2 _ (Ne.symm I.ne)).trans I.obj,hn2,I.ne⟩ hs2)

theorem aLk {R:Result->Shared->Prop}{vs:List Value}{kw:List (Str×Value)}(X:K.In s.heap)(hm:makesIn K C=true)
  (hi:findIn K (.ref C) "__init__" = some (some (.ref f)))(hf:typeIn K (.ref f)=some (.type "function"))
  (h:codeAny (model prog w) (A.under (.builtin "type.__call__" ⟨.ref C::vs,kw⟩)) (.call (.ref f) ⟨.ref (s.heap.objs.size+1)::vs,kw⟩) (InitBack (s.heap.objs.size+1) R)
   { s with heap:=(s.heap.push emptyDict).push (instObj C s.heap.objs.size) }) :
  codeAny (model prog w) A (.call (.ref C) ⟨vs,kw⟩) R s:=by
 obtain⟨hh,g,d,t,os⟩:=s;exact make_core (makes_of X hm) (looks_findIn X hi) (λself=>bind_fn X self hf) (.inl rfl) h
end

def gY (f:Str)(v:V):List (Str×V)->List (Str×V)
 | []=>[(f,v)]
 | (g,x)::r=>if g=f then (g,v)::r else (g,x)::gY f v r
theorem rH (f g:Str)(v:V):∀ fs:List (Str×V),(gY f v fs).lookup g=if g=f then some v else fs.lookup g
 | []=>by
  show List.lookup g [(f,v)]=_
  by_cases h:g=f
  ·have hb:(g==f)=true:=xEe.mpr h;simp only[List.lookup,hb,if_pos h]
  ·have hb:(g==f)=false:=xDf.mpr h;simp only[List.lookup,hb,if_neg h]
 | (k,x)::r=>by
  have ih:=rH f g v r;rw[show gY f v ((k,x)::r)=(if k=f then (k,v)::r else (k,x)::gY f v r) from rfl]
  by_cases hk:k=f
  ·rw[xBe hk]
   by_cases h:g=k
   ·have hb:(g==k)=true:=xEe.mpr h;simp only[List.lookup,hb,if_pos (h.trans hk)]
   ·have hb:(g==k)=false:=xDf.mpr h;simp only[List.lookup,hb,if_neg (λe:g=f=>h (e.trans hk.symm))]
  ·rw[xAy hk]
   by_cases h:g=k
   ·have hb:(g==k)=true:=xEe.mpr h;simp only[List.lookup,hb,if_neg (λe:g=f=>hk (h.symm.trans e))]
   ·have hb:(g==k)=false:=xDf.mpr h;simp only[List.lookup,hb];exact ih
theorem qT (f:Str)(v:V):∀ fs:List (Str×V),f∈(gY f v fs).map (·.1)/\∀ g,g∈fs.map (·.1)->g∈(gY f v fs).map (·.1)
 | []=>⟨by simp[gY],λg h=>by simp at h⟩
 | (k,x)::r=>by
  obtain⟨i1,i2⟩:=qT f v r;rw[show gY f v ((k,x)::r)=(if k=f then (k,v)::r else (k,x)::gY f v r) from rfl]
  by_cases hk:k=f
  ·rw[xBe hk];subst hk;exact⟨by simp,λg h=>by simpa using h⟩
  ·rw[xAy hk];refine⟨?_,λg h=>?_⟩
   ·rw[xCd];exact xBi _ i1
   ·rw[xCd] at h ⊢;rcases xAo.mp h with e | e
    ·exact xAo.mpr (.inl e)
    ·exact xBi _ (i2 g e)
theorem rJ (f:Str)(v:V):∀ fs:List (Str×V),(gY f v fs).length<=fs.length+1
 | []=>by simp[gY]
 | (k,x)::r=>by
  have ih:=rJ f v r;rw[show gY f v ((k,x)::r)=(if k=f then (k,v)::r else (k,x)::gY f v r) from rfl]
  by_cases hk:k=f
  ·rw[xBe hk,xBd,xBd]; omega
  ·rw[xAy hk,xBd,xBd]; omega

theorem kZ.some_of {v:V}{o:Option Value}(r:kZ (some v) o):∃ u,o=some u/\cJ v u:=by
 cases o with
 | none=>exact (show False from r).elim
 | some u=>exact⟨u,rfl,r⟩
theorem kZ.none_of {o:Option Value}(r:kZ none o):o=none:=by
 cases o with
 | none=>rfl
 | some u=>exact (show False from r).elim
theorem aHl {v:V}{u:Value}(r:cJ v u):handedIn u=true:=by
 cases v with
 | non=>cases (show u=Value.none from r); rfl
 | bl b=>cases (show u=Value.bool b from r); rfl
 | int i=>obtain⟨t,e⟩:=(show ∃ t,u=Value.int i t from r); cases e; rfl
 | str x=>obtain⟨t,e⟩:=(show ∃ t,u=Value.str x t from r); cases e; rfl
 | byt b=>obtain⟨t,e⟩:=(show ∃ t,u=Value.bytes b t from r); cases e; rfl
 | flt b=>obtain⟨t,e⟩:=(show ∃ t,u=Value.float b t from r); cases e; rfl
 | ref a=>cases (show u=Value.ref a from r); rfl
 | ty n=>cases (show u=Value.type n from r); rfl

section
variable {P:Program}{w:World}{H H':Hp}{h h':Heap}{a C dx:Addr}{fs fs':List (Str×V)}
theorem pI (hok:HOk P w H h)(e:H a=some (.ins C dx fs)):∃ mA,aDq h a dx C mA/\(∀ f,kZ (fs.lookup f) (mA f))/\PySem.Within mA (fs.map (·.1))/\fs.length<=1000/\H dx=some (.own a):=by
 obtain⟨d,z,ne,ob,mA,n,r,q⟩:=(show cU P w H h a (.ins C dx fs) from hok a _ e)
 exact⟨mA,⟨ob,n,ne⟩,r,q,z,d⟩
end

structure Cls (K:xAd)(C:Addr):Prop where
 pg:plainGet K C Str.empty=true
 hd:hasDictIn K C=true
 po:plainOver K C=true
 sa:findIn K (.ref C) "__setattr__" = some (some (.builtin "object.__setattr__"))
theorem Cls.get {K:xAd}{C:Addr}(c:Cls K C)(f:Str):plainGet K C f=true:=c.pg
def gM (K:xAd)(C:Addr)(f:Str):Prop:=findIn K (.ref C) f=some none
theorem gM.taker {K:xAd}{C:Addr}{f:Str}(n:gM K C f):takerIn K C f=some none:=by
 unfold takerIn;rw[show findIn K (.ref C) f=some none from n]
 rfl
structure fV (K:xAd)(C:Addr)(m:Str)(f:Addr):Prop where
 at_:findIn K (.ref C) m=some (some (.ref f))
 fn:isFn K (.ref f)=true
 kp:keepIn K (.ref f)=true

section
variable {X:Cx}{pins:xPn}{Z:St}{H:Hp}{s:Shared}{a C dx:Addr}{fs:List (Str×V)}{f:Str}{v:V}{A:Around}{E:xVP}

theorem aDg {b:Bool}{Q:xVP}(I:Inv X pins Z H s)(e:H a=some (.ins C dx fs))(c:Cls X.K C)(n:gM X.K C f)(l:fs.lookup f=some v)
  (h:∀ u s',Inv X pins Z H s'->cJ v u->Q u s'):wpAny (model X.prog X.w) A (getAttr (.ref a) f b) Q E s:=by
 obtain⟨mA,O,r,_,_,_⟩:=pI I.hok e;obtain⟨u,hu,ru⟩:=kZ.some_of (v:=v) (o:=mA f) (by rw[<- l]; exact r f);exact aPe I.kIn O (c.get f) c.hd n hu (aHl ru) (h u _ (I.tok _) ru)


theorem tZ {m:Str}{g:Addr}{pl:Sem Bool}{Q:Value×List Value->Shared->Prop}(I:Inv X pins Z H s)(e:H a=some (.ins C dx fs))(c:Cls X.K C)(k:fV X.K C m g)(l:fs.lookup m=none)
  (h:Q (.ref g,[.ref a]) s):wpAny (model X.prog X.w) A (getMethod (.ref a) m pl) Q E s:=by
 obtain⟨mA,O,r,_,_,_⟩:=pI I.hok e;have hn:mA m=none:=kZ.none_of (by rw[<- l]; exact r m);exact aMc I.kIn O (c.get m) k.at_ k.fn hn h

theorem aBr {y:V}{u:Value}{Q:Unit->Shared->Prop}(I:Inv X pins Z H s)(e:H a=some (.ins C dx fs))(c:Cls X.K C)(n:gM X.K C f)(hl:fs.length<1000)(ry:cJ y u)
  (h:∀ s',Inv X pins Z (upd H a (.ins C dx (gY f y fs))) s'->Q () s'):wpAny (model X.prog X.w) A (setAttr (.ref a) f u) Q E s:=by
 obtain⟨mA,O,r,wi,_,ho⟩:=pI I.hok e;have hz:(fs.map (·.1)).length<=sizeLine:=by rw[xAa,sizeLine_eq]; omega
 refine aNp I.kIn O c.sa c.po n.taker c.hd wi hz λh' O' sb=>h _ ?_;have hd:∃ o,h'.get? dx=some o:=let ⟨o,_,_,e',_⟩:=O'.ns; ⟨o,e'⟩;refine I.write (x:=a) (e:=dx) (by rw[e]; exact True.intro) (.inr ho) (λb q hb z=>(sb.2 b hb).trans z) hd ?_;refine⟨by rw[aG O.ne]; exact ho,?_,O.ne,O'.obj,_,O'.ns,λg=>?_,λg hg=>?_⟩
 ·have:=rJ f y fs; omega
 ·show kZ ((gY f y fs).lookup g) (if g=f then some u else mA g)
  rw[rH]
  by_cases q:g=f
  ·rw[xBe q,xBe q]; exact ry
  ·rw[xAy q,xAy q]; exact r g
 ·by_cases q:g=f
  ·rw[q]; exact (qT f y fs).1
  ·refine (qT f y fs).2 g (wi g λz=>hg ?_);show (if g=f then some u else mA g)=none
   rw[xAy q]; exact z

theorem Inv.made (I:Inv X pins Z H s):Inv X pins Z (upd (upd H s.heap.objs.size (.own (s.heap.objs.size+1))) (s.heap.objs.size+1) (.ins C s.heap.objs.size []))
  { s with heap:=(s.heap.push emptyDict).push (instObj C s.heap.objs.size) }:=by
 have e1:(s.heap.push emptyDict).get? s.heap.objs.size=some emptyDict:=xAk s.heap rfl
 have e2:((s.heap.push emptyDict).push (instObj C s.heap.objs.size)).get? (s.heap.objs.size+1)=some (instObj C s.heap.objs.size):=by
  have:=xAk (s.heap.push emptyDict) (o:=instObj C s.heap.objs.size) rfl
  rwa [xEa] at this
 have e3:(s.heap.push emptyDict).Ns s.heap.objs.size (λ_=>none):=⟨emptyDict,#[],_,e1,rfl,(λe he=>xBg he (by simp)),λ_=>rfl⟩;have I1:=I.laid (a:=s.heap.objs.size) (o:=.own (s.heap.objs.size+1)) (h':=s.heap.push emptyDict) (t':=s.toks) (λb u q=>xAf _ q) (xAi _) ⟨_,e1⟩;refine I1.laid (a:=s.heap.objs.size+1) (o:=.ins C s.heap.objs.size []) (t':=s.toks) (λb u q=>xAf _ q) (Nat.le_of_eq (xEa _ _)) ?_;have ne:s.heap.objs.size≠s.heap.objs.size+1:=xAz (xHa _);refine⟨by rw[aG ne,aD],xCa _,ne,e2,λ_=>none,(Heap.Ns1.of_empty e3).at λo q=>xAf _ q,λ_=>True.intro,λy hy=>xBg rfl hy⟩

theorem aPm {prog:Program}{w:World}{env:Env}{e:Expr}{f:Str}{pos:Pos}{s:Shared}{Q:xVP}(hb:attributeBase e f env (eval e env)=eval e env)
  (h:wpAny (model prog w) A (eval e env) (λo s₁=>wpAny (model prog w) A (getAttr o f true) Q E s₁) E s):wpAny (model prog w) A (eval (.Attribute e f pos) env) Q E s:=
 Attribute_any_ h (by rw[arm_eval_Attribute,hb])
end

inductive aVh (K:xAd)(f:Str)(x:V)(H1:Hp)(Q:VK):Prop
 | mk (a C dx:Addr)(fs:List (Str×V))(v:V)(h1:x=.ref a)(h2:H1 a=some (.ins C dx fs))(h3:Cls K C)(h4:gM K C f)(h5:fs.lookup f=some v)(q:Q v H1)
def aVu (K:xAd)(ta:TE)(f:Str):TE:=λZ H Q=>ta Z H λx H1=>aVh K f x H1 Q
inductive aVc (K:xAd)(f:Str)(x y:V)(H2:Hp)(R:Hp->Prop):Prop
 | mk (a C dx:Addr)(fs:List (Str×V))(h1:x=.ref a)(h2:H2 a=some (.ins C dx fs))(h3:Cls K C)(h4:gM K C f)(h5:fs.length<1000)(q:R (upd H2 a (.ins C dx (gY f y fs))))
def aWt (K:xAd)(ta tv:TE)(f:Str):TS:=λD Z H=>tv Z H λy H1=>ta Z H1 λx H2=>aVc K f x y H2 (D.nx Z)

section
variable {X:Cx}{o e value:Expr}{f:Str}{pos pos' tpos:Pos}{ta tv:TE}
theorem eN (he:PE X e ta)(hb:attributeBase e f X.env (eval e X.env)=eval e X.env):PE X (.Attribute e f pos) (aVu X.K ta f):=by
 intro pins s Z H Q I h;refine aPm hb (thn (he pins s Z H _ I h) λu s1 ⟨x,H1,I1,rx,a,C,dx,fs,v,ex,ea,c,n,l,q⟩=>?_);subst ex;obtain rfl:u=Value.ref a:=rx;exact aDg I1 ea c n l λu' s2 I2 ru=>⟨v,H1,I2,ru,q⟩
theorem kH (ha:PE X o ta)(hv:PE X value tv)(hs:swapsWith value (some (.Attribute o f pos')) pos.line X.env=pure false):PS X (.Assign [.Attribute o f pos'] value pos) (aWt X.K ta tv f):=by
 intro pins s Z H D I h;refine plainObj_wpAny_Assign_Attribute (thn (hv pins s Z H _ I h) λu s1 ⟨y,H1,I1,ry,q⟩=>thn (ha pins s1 Z H1 _ I1 q) λov s2 ⟨x,H2,I2,rx,a,C,dx,fs,ex,ea,c,n,l,q2⟩=>?_) hs;subst ex;obtain rfl:ov=Value.ref a:=rx;exact aBr I2 ea c n l ry λs3 I3=>⟨Z,_,I3,q2⟩

end

section
variable {X:Cx}{pins:xPn}{Z:St}{H:Hp}{s:Shared}{A:Around}{E:xVP}{Q:xVP}{c:Value}{b:Bool}
inductive oF (K:xAd)(H:Hp):V->Value->Prop where
 | non:oF K H .non (.type "NoneType")
 | bl (x:Bool):oF K H (.bl x) (.type "bool")
 | int (i:Int):oF K H (.int i) (.type "int")
 | str (x:Str):oF K H (.str x) (.type "str")
 | flt (x:UInt64):oF K H (.flt x) (.type "float")
 | lst {a:Addr}{xs:List V}(e:H a=some (.lst xs)):oF K H (.ref a) (.type "list")
 | frz {a:Addr}{o:Obj}{xs:List V}(e:H a=some (.frz o (.lst xs))):oF K H (.ref a) (.type "list")
 | tup {a:Addr}{xs:List V}(e:H a=some (.tup xs)):oF K H (.ref a) (.type "tuple")
 | dK {a:Addr}{kvs:List (Key×V)}(e:H a=some (.dK kvs)):oF K H (.ref a) (.type "dict")
 | dT {a:Addr}{kvs:List (List Key×V)}(e:H a=some (.dT kvs)):oF K H (.ref a) (.type "dict")
 | ins {a C dx:Addr}{fs:List (Str×V)}(e:H a=some (.ins C dx fs)) (cl:Cls K C) (ha:findIn K (.ref C) "__class__" = some (some (.builtin "object.__class__")))
   (hn:specialIn K (.builtin "object.__class__") "__get__" = some (some (.builtin "getset_descriptor.__get__")))(htk:takesIn K (.builtin "object.__class__")=some true)
   (hm:mroIn K C (.type "object")=some true):oF K H (.ref a) (.ref C)
theorem aHj {x:V}{u t:Value}(I:Inv X pins Z H s)(rx:cJ x u)(ty:oF X.K H x t)(e:kitOne X.K t c=some b)(h:∀ tk,Q (.bool b) { s with toks:=tk }) :
  wpAny (model X.prog X.w) A (call (.builtin "isinstance") [u,c]) Q E s:=by
 cases ty with
 | non=>cases (show u=Value.none from rx); exact xDb kitx_none I.kIn True.intro e (λz=>nomatch z) h
 | bl y=>cases (show u=Value.bool y from rx); exact xDb kitx_bool I.kIn True.intro e (λz=>nomatch z) h
 | int i=>obtain⟨t,q⟩:=(show ∃ t,u=Value.int i t from rx); cases q; exact xDb kitx_int I.kIn True.intro e (λz=>nomatch z) h
 | str y=>obtain⟨t,q⟩:=(show ∃ t,u=Value.str y t from rx); cases q; exact xDb kitx_str I.kIn True.intro e (λz=>nomatch z) h
 | flt y=>obtain⟨t,q⟩:=(show ∃ t,u=Value.float y t from rx); cases q; exact xDb kitx_float I.kIn True.intro e (λz=>nomatch z) h
 | @lst a xs ea=>
  cases (show u=Value.ref a from rx)
  obtain⟨_,_,n,_,h1⟩:=(show cU X.prog X.w H s.heap a (.lst xs) from I.hok a _ ea)
  exact xDb kitx_list I.kIn ⟨_,h1,rfl⟩ e (λz=>nomatch z) h
 | @frz a ob xs ea=>
  cases (show u=Value.ref a from rx)
  obtain⟨_,_,_,n,_,h1⟩:=(show cU X.prog X.w H s.heap a (.frz ob (.lst xs)) from I.hok a _ ea)
  exact xDb kitx_list I.kIn ⟨_,h1,rfl⟩ e (λz=>nomatch z) h
 | @tup a xs ea=>
  cases (show u=Value.ref a from rx)
  obtain⟨_,_,_,p⟩:=(show cU X.prog X.w H s.heap a (.tup xs) from I.hok a _ ea)
  obtain⟨o,h1,h2,_⟩:=p;exact xDb kitx_tuple I.kIn ⟨o,h1,h2⟩ e (λz=>nomatch z) h
 | @dK a kvs ea=>
  cases (show u=Value.ref a from rx)
  obtain⟨_,_,vs,_,p⟩:=(show cU X.prog X.w H s.heap a (.dK kvs) from I.hok a _ ea)
  obtain⟨o,es,ep,h1,h2,_⟩:=p;exact xDb kitx_dict I.kIn ⟨o,h1,h2.1⟩ e (λz=>nomatch z) h
 | @dT a kvs ea=>
  cases (show u=Value.ref a from rx)
  obtain⟨_,_,xs,_,o,es,ep,h1,h2,_⟩:=(show cU X.prog X.w H s.heap a (.dT kvs) from I.hok a _ ea)
  exact xDb kitx_dict I.kIn ⟨o,h1,h2.1⟩ e (λz=>nomatch z) h
 | @ins a C dx fs ea cl ha hn htk hm=>
  cases (show u=Value.ref a from rx)
  obtain⟨mA,O,_⟩:=pI I.hok ea;obtain⟨od,J,_⟩:=O.look;exact xDb (kitx_own (cl.get _) cl.hd ha hn htk hm) I.kIn J e (λz=>nomatch z) h
end

structure cL (k:Nat)(A:Around):Prop where
 hd:A.handled=none
 dp:A.depth+3*k+5<recursionLimit
 un:A.units+16*k+200<cLine
theorem cL.mono {j k:Nat}{A:Around}(r:cL k A)(h:j<=k):cL j A:=⟨r.hd,by have:=r.dp; omega,by have:=r.un; omega⟩
theorem cL.deeper {k:Nat}{A:Around}(r:cL (k+1) A)(env:Env):cL k (A.deeper env):=
 ⟨r.hd,by have:=r.dp; show A.depth+1+3*k+5<_; omega,by have:=r.un; show A.units+3+16*k+200<_; omega⟩
theorem aCv {A:Around}{C:Addr}{us:List Value}{kw:List (Str×Value)}:(A.under (.builtin "type.__call__" ⟨.ref C::us,kw⟩)).depth=A.depth+1:=by
 first | rfl | simp[Around.under,Code.weight,Code.isCreation,Code.isGuard,Code.isCaller,Code.frames,Code.isFrame,guardIds]
theorem aCu {A:Around}{C:Addr}{us:List Value}{kw:List (Str×Value)}:(A.under (.builtin "type.__call__" ⟨.ref C::us,kw⟩)).units=A.units+1:=by
 first | rfl | simp[Around.under,Code.cUnits,Code.frames,Code.isFrame]
theorem cL.make {k:Nat}{A:Around}(r:cL (k+1) A)(C:Addr)(us:List Value)(kw:List (Str×Value)):cL k (A.under (.builtin "type.__call__" ⟨.ref C::us,kw⟩)):=
 ⟨r.hd,by have:=r.dp; rw[aCv]; omega,by have:=r.un; rw[aCu]; omega⟩
theorem cL.depth {k:Nat}{A:Around}(r:cL k A):A.depth<recursionLimit:=by have:=r.dp; omega
theorem cL.units {k:Nat}{A:Around}(r:cL k A):A.units+64<cLine:=by have:=r.un; omega

def aIq:TA:=λ_ H Q=>Q [] H
def vI (ta:TE)(tr:TA):TA:=λZ H Q=>ta Z H λx H1=>tr Z H1 λxs H2=>Q (x::xs) H2
section
variable {X:Cx}{e:Expr}{es:List Expr}{te:TE}{t:TA}{pos:Pos}
theorem aH:PA X [] aIq:=λ_ _ _ _ H Q I h=>xEw ⟨[],H,I,.nil,h⟩
theorem jD (ha:PE X e te)(hr:PA X es t)(hs:starEach (e::es) X.env=(false,eval e X.env)::starEach es X.env:=by rfl):PA X (e::es) (vI te t):=by
 intro pos pins s Z H Q I h;rw[hs];show wpAny _ _ (spliced ((false,eval e X.env)::backTo pos (starEach es X.env))) _ _ s;refine xDd (thn (ha pins s Z H _ I h) λu s1 ⟨x,H1,I1,r1,q1⟩=>?_);exact thn (hr pos pins s1 Z H1 _ I1 q1) λus s2 ⟨xs,H2,I2,r2,q2⟩=>⟨x::xs,H2,I2,.cons r1 r2,q2⟩

def aVm (t:TA):TE:=λZ H Q=>t Z H λxs H1=>xs.length<=sizeLine/\∀ p,H1 p=none->Q (.ref p) (upd H1 p (.tup xs))
def aVr (t:TA):TE:=λZ H Q=>t Z H λxs H1=>xs.length<=sizeLine/\∀ p,H1 p=none->Q (.ref p) (upd H1 p (.lst xs))
theorem hU {x1}(h:PA X es t):PE X (.Tuple es x1 pos) (aVm t):=by
 intro pins s Z H Q I hq;refine wpAny_Tuple_spliced (thn (h pos pins s Z H _ I hq) λus s1 ⟨xs,H1,I1,r,z,q⟩=>⟨by rw[<- r.length]; exact z,?_⟩);have hf:H1 s1.heap.objs.size=none:=I1.hok.fresh (xAi _);refine⟨.ref s1.heap.objs.size,upd H1 s1.heap.objs.size (.tup xs),I1.laid (t':=s1.toks) (λb u e=>xAf _ e) (xAi _) ?_,rfl,q _ hf⟩;exact⟨z,us,r,⟨_,xAk _ rfl,rfl,_,rfl⟩⟩
theorem cM (h:PA X es t):PE X (.List es pos) (aVr t):=by
 intro pins s Z H Q I hq;refine wpAny_List_spliced (thn (h pos pins s Z H _ I hq) λus s1 ⟨xs,H1,I1,r,z,q⟩=>⟨by rw[<- r.length]; exact z,?_⟩);have hf:H1 s1.heap.objs.size=none:=I1.hok.fresh (xAi _);refine⟨.ref s1.heap.objs.size,upd H1 s1.heap.objs.size (.lst xs),I1.laid (t':=s1.toks) (λb u e=>xAf _ e) (xAi _) ?_,rfl,q _ hf⟩;exact⟨z,us,0,r,xAk _ rfl⟩
end

abbrev Sp:=List V->Hp->VK->XK->Prop
abbrev CXT:=List Env->Hp->Shared->XK->Value->Shared->Prop

structure rB (P:Program)(w:World)(K:xAd)(mg:xSO)(base:Heap)(A:Around)(outer:List Env)(s:Shared)(H:Hp):Prop where
 frames:A.frames=some outer
 mod:Mod K mg base
 bs:∀ b o,base.get? b=some o->s.heap.get? b=some o/\H b=none
 bsz:base.objs.size<=s.heap.objs.size
 funs:s.heap.FunFrames base outer
 frf:∀ b∈frs outer,H b=none
 hok:HOk P w H s.heap
 bare:AllBare s.gens
inductive CE (outer:List Env)(P:Program)(w:World)(H:Hp)(s:Shared)(Q:VK)(u:Value)(s':Shared):Prop
 | mk (v:_)(H':_)(h0_:s'.os=s.os)(h1_:AllBare s'.gens)(h2_:Un (frs outer) [] H H' s.heap s'.heap)(h3_:HOk P w H' s'.heap)(h4_:cJ v u)(h5_:Q v H')
def CR (CX:CXT)(outer:List Env)(P:Program)(w:World)(H:Hp)(s:Shared)(Q:VK)(E:XK)(r:Result)(s':Shared):Prop:=
 match r with
 | .ok (.ret u)=>CE outer P w H s Q u s'
 | .ok _=>False
 | .error e=>CX outer H s E e s'
structure aY (P:Program)(w:World)(K:xAd)(mg:xSO)(base:Heap)(CX:CXT)(k:Nat)(f:Addr)(fd:FuncData)(ps:List Str)(sp:Sp):Prop where
 len:∀ vs H Q E,sp vs H Q E->vs.length=ps.length
 run:∀ (A:Around) (outer:List Env) (s:Shared) (H:Hp) (args:Args) (us:List Value) (vs:List V) (Q:VK) (E:XK),cL k A->rB P w K mg base A outer s H->BindsTo s fd args (ps.zip us)->bZ vs us->sp vs H Q E ->
  codeAny (model P w) A (.call (.ref f) args) (CR CX outer P w H s Q E) s

theorem rB.make {P:Program}{w:World}{K:xAd}{mg:xSO}{base:Heap}{A:Around}{outer:List Env}{s:Shared}{H:Hp}(e:rB P w K mg base A outer s H)(C:Addr)(us:List Value)(kw:List (Str×Value)) :
  rB P w K mg base (A.under (.builtin "type.__call__" ⟨.ref C::us,kw⟩)) outer s H:=⟨by first | exact e.frames | (simpa [Around.under,Code.envs,Code.isFrame,pushEnvs] using e.frames),e.mod,e.bs,e.bsz,e.funs,e.frf,e.hok,e.bare⟩

section
variable {X:Cx}{pins:xPn}{Z:St}{H:Hp}{s s':Shared}
theorem Inv.env0 (I:Inv X pins Z H s):rB X.prog X.w X.K X.mg X.base X.A X.stack s H:=
 ⟨I.ok.frames,I.ok.mod,I.bs,xAr I.ok.bsz I.sz,I.stack,I.stkFree,I.hok,I.bare⟩
theorem Inv.after {Q:VK}{u:Value}(I:Inv X pins Z H s)(h:CE X.stack X.prog X.w H s Q u s'):EP X pins Z Q u s':=by
 obtain⟨v,H',os,bare,un,hok,r,q⟩:=h;obtain⟨hh,g,d,t,os'⟩:=s';obtain rfl:os'=s.os:=os;exact⟨v,H',I.call (h':=hh) (g':=g) (d':=d) (t':=t) (ch:=[]) un hok bare (λb z=>xBg z (by simp)),r,q⟩
end

def aIt (sp:Sp)(dvs:List V)(E:XK)(t:TA):TE:=λZ H Q=>t Z H λvs H1=>sp (vs++dvs) H1 Q E
inductive aSr (C:Addr)(m:Str)(x:V)(H1:Hp)(R:Prop):Prop
 | mk (a dx:Addr)(fs:List (Str×V))(h1:x=.ref a)(h2:H1 a=some (.ins C dx fs))(h3:fs.lookup m=none)(r:R)
def aIr (C:Addr)(m:Str)(sp:Sp)(dvs:List V)(E:XK)(ta:TE)(t:TA):TE:=λZ H Q=>ta Z H λx H1=>aSr C m x H1 (t Z H1 λvs H2=>sp (x::(vs++dvs)) H2 Q E)
def aTc (C:Addr)(sp:Sp)(dvs:List V)(E:XK)(t:TA):TE:=λZ H Q=>t Z H λvs H1=>∀ x dx,H1 x=none->H1 dx=none->dx≠x ->
 sp (.ref x::(vs++dvs)) (upd (upd H1 dx (.own x)) x (.ins C dx [])) (λv H2=>v=.non/\Q (.ref x) H2) E

def aW (K:xAd)(fd:FuncData)(ps:List Str)(ds:List Value):Prop:=
 ∀ (s:Shared) (us:List Value),K.In s.heap->(us++ds).length=ps.length->BindsTo s fd ⟨us,[]⟩ (ps.zip (us++ds))
theorem aW.all {K:xAd}{fd:FuncData}{ps:List Str}(h:∀ us:List Value,us.length=ps.length->bindArgs fd ⟨us,[]⟩=pure (ps.zip us)):aW K fd ps []:=λs us _ hl=>by
 rw[xBm] at hl ⊢;exact .of_eq (h us hl)

def gF (CX:CXT)(X:Cx)(E:XK):Prop:=∀ (pins:xPn) (Z:St) (H:Hp) (s:Shared) (e:Value) (s':Shared),Inv X pins Z H s->CX X.stack H s E e s'->X.xe e s'

section
variable {X:Cx}{CX:CXT}{k:Nat}{f C:Addr}{fd:FuncData}{ps:List Str}{sp:Sp}{dvs:List V}{ds:List Value}{E:XK}{x m:Str}{p pos apos:Pos}{e o:Expr}{es:List Expr}{ta:TE}{t:TA}

theorem aBx {pins:xPn}{Z:St}{H:Hp}{s:Shared}{Q:VK}{us:List Value}{vs:List V}(F:aY X.prog X.w X.K X.mg X.base CX k f fd ps sp)(hr:cL k X.A)(hb:aW X.K fd ps ds)(hd:bZ dvs ds)(hx:gF CX X E)
  (I:Inv X pins Z H s)(r:bZ vs us)(h:sp (vs++dvs) H Q E):wpAny (model X.prog X.w) X.A (call (.ref f) us) (EP X pins Z Q) X.xe s:=by
 have r2:bZ (vs++dvs) (us++ds):=r.append hd;have hl:(us++ds).length=ps.length:=by rw[<- r2.length]; exact F.len _ _ _ _ h
 refine xFc (xDl (F.run X.A X.stack s H ⟨us,[]⟩ (us++ds) (vs++dvs) Q E hr I.env0 (hb s us I.kIn hl) r2 h) λr s' hq=>?_);cases r with
 | error e=>exact hx pins Z H s e s' I hq
 | ok fl=>
  cases fl with
  | ret u=>exact I.after hq
  | next=>exact False.elim hq
  | brk=>exact False.elim hq
  | cont=>exact False.elim hq

theorem bV (F:aY X.prog X.w X.K X.mg X.base CX k f fd ps sp)(hr:cL k X.A)(hg:Gl X x)(hm:X.mg x=some (.ref f))(hk:keepIn X.K (.ref f)=true)(hb:aW X.K fd ps ds)(hd:bZ dvs ds)(hx:gF CX X E)
  (ha:PA X (e::es) t)(hdb:(x==("__debug__" : Str))=false:=by decide)(he:starEach (e::es) X.env=(false,eval e X.env)::starEach es X.env:=by rfl)(hpl:(backTo pos (starEach es X.env)).any (·.1)=false:=by rfl) :
  PE X (.Call (.Name x p) (e::es) [] pos) (aIt sp dvs E t):=by
 intro pins s Z H Q I h;refine xCl (gS I hg hm ?_ hdb);refine xFh (h₀:=X.base) I.ok.mod.kin hk (thn (ha pos pins s Z H _ I h) λus s1 ⟨vs,H1,I1,r,q⟩=>⟨I1.kIn,?_⟩) he hpl;exact aBx F hr hb hd hx I1 r q

theorem eA {pl:Sem Bool}(he:PE X o ta)(c:Cls X.K C)(hm:fV X.K C m f)(F:aY X.prog X.w X.K X.mg X.base CX k f fd ps sp)(hr:cL k X.A)(hb:aW X.K fd ps ds)(hd:bZ dvs ds)(hx:gF CX X E)(ha:PA X (e::es) t)
  (hst:starEach (e::es) X.env=(false,eval e X.env)::starEach es X.env:=by rfl)(hpl:(backTo pos (starEach es X.env)).any (·.1)=false:=by rfl)
  (ht:eval (.Call (.Attribute o m apos) (e::es) [] pos) X.env=(do
   let ov <- eval o X.env
   standAt apos.atName
   let (f,first) <- holding [ov] (getMethod ov m pl)
   callWith pos f first (backTo pos (starEach (e::es) X.env)) (backToKw pos (keywordEach [] X.env))):=by rfl) :
  PE X (.Call (.Attribute o m apos) (e::es) [] pos) (aIr C m sp dvs E ta t):=by
 intro pins s Z H Q I h;refine xJv (pl:=pl) (thn (he pins s Z H _ I h) λu s1 ⟨x,H1,I1,rx,a,dx,fs,ex,ea,l,q⟩=>?_) ht;subst ex;obtain rfl:u=Value.ref a:=rx;refine tZ I1 ea c hm l ?_;refine xFh (first:=[.ref a]) (h₀:=X.base) I.ok.mod.kin hm.kp (thn (ha pos pins s1 Z H1 _ I1 q) λus s2 ⟨vs,H2,I2,r,q2⟩=>⟨I2.kIn,?_⟩) hst hpl;exact aBx (us:=.ref a::us) (vs:=.ref a::vs) F hr hb hd hx I2 (.cons rfl r) q2
theorem dS {pl:Sem Bool}(he:PE X o ta)(c:Cls X.K C)(hm:fV X.K C m f)(F:aY X.prog X.w X.K X.mg X.base CX k f fd ps sp)(hr:cL k X.A)(hb:aW X.K fd ps ds)(hd:bZ dvs ds)(hx:gF CX X E)
  (ht:eval (.Call (.Attribute o m apos) [] [] pos) X.env=(do
   let ov <- eval o X.env
   standAt apos.atName
   let (f,first) <- holding [ov] (getMethod ov m pl)
   callWith pos f first (backTo pos (starEach [] X.env)) (backToKw pos (keywordEach [] X.env))):=by rfl) :
  PE X (.Call (.Attribute o m apos) [] [] pos) (aIr C m sp dvs E ta aIq):=by
 intro pins s Z H Q I h;refine xJv (pl:=pl) (thn (he pins s Z H _ I h) λu s1 ⟨x,H1,I1,rx,a,dx,fs,ex,ea,l,q⟩=>?_) ht;subst ex;obtain rfl:u=Value.ref a:=rx;refine tZ I1 ea c hm l ?_;exact callWith_K0 (first:=[.ref a]) I1.kIn hm.kp (aBx (us:=[.ref a]) (vs:=[.ref a]) F hr hb hd hx I1 (.cons rfl .nil) q)

structure Mk (K:xAd)(C f:Addr):Prop where
 makes:makesIn K C=true
 init:findIn K (.ref C) "__init__"=some (some (.ref f))
 fn:isFn K (.ref f)=true
 kp:keepIn K (.ref C)=true

theorem aJq {pins:xPn}{Z:St}{H:Hp}{s:Shared}{Q:VK}{us:List Value}{vs:List V}(M:Mk X.K C f)(F:aY X.prog X.w X.K X.mg X.base CX k f fd ps sp)(hr:cL (k+1) X.A)(hb:aW X.K fd ps ds)(hd:bZ dvs ds)
  (hx:gF CX X E)(I:Inv X pins Z H s)(r:bZ vs us)
  (h:∀ x dx,H x=none->H dx=none->dx≠x->sp (.ref x::(vs++dvs)) (upd (upd H dx (.own x)) x (.ins C dx [])) (λv H2=>v=.non/\Q (.ref x) H2) E) :
  wpAny (model X.prog X.w) X.A (call (.ref C) us) (EP X pins Z Q) X.xe s:=by
 have hq:=h (s.heap.objs.size+1) s.heap.objs.size (I.hok.fresh (xEr _)) (I.hok.fresh (xAi _)) (xAz (xHa _));have I2:=Inv.made (C:=C) I;have r2:bZ (V.ref (s.heap.objs.size+1)::(vs++dvs)) (Value.ref (s.heap.objs.size+1)::(us++ds)):=.cons rfl (r.append hd)
 have hl:(Value.ref (s.heap.objs.size+1)::us++ds).length=ps.length:=by
  have e:=r2.length;rw[F.len _ _ _ _ hq] at e;exact e.symm
 refine xFc (aLk (f:=f) I.kIn M.makes M.init (xEe.mp M.fn) (xDl (F.run _ X.stack _ _ ⟨Value.ref (s.heap.objs.size+1)::us,[]⟩ (Value.ref (s.heap.objs.size+1)::(us++ds)) _ _ E (hr.make C us [])
  (I2.env0.make C us []) (hb _ (Value.ref (s.heap.objs.size+1)::us) I2.kIn hl) r2 hq) λr s' hq'=>?_))
 cases r with
 | error e=>exact hx pins Z _ _ e s' I2 hq'
 | ok fl=>
  cases fl with
  | ret u=>
   obtain⟨v,H',I3,rv,ev,q3⟩:=I2.after hq';subst ev;exact⟨rv,⟨V.ref (s.heap.objs.size+1),H',I3,rfl,q3⟩⟩
  | next=>exact False.elim hq'
  | brk=>exact False.elim hq'
  | cont=>exact False.elim hq'
theorem pA (M:Mk X.K C f)(F:aY X.prog X.w X.K X.mg X.base CX k f fd ps sp)(hr:cL (k+1) X.A)(hg:Gl X x)(hm:X.mg x=some (.ref C))(hb:aW X.K fd ps ds)(hd:bZ dvs ds)(hx:gF CX X E)
  (ha:PA X (e::es) t)(hdb:(x==("__debug__" : Str))=false:=by decide)(he:starEach (e::es) X.env=(false,eval e X.env)::starEach es X.env:=by rfl)(hpl:(backTo pos (starEach es X.env)).any (·.1)=false:=by rfl) :
  PE X (.Call (.Name x p) (e::es) [] pos) (aTc C sp dvs E t):=by
 intro pins s Z H Q I h;refine xCl (gS I hg hm ?_ hdb);refine xFh (h₀:=X.base) I.ok.mod.kin M.kp (thn (ha pos pins s Z H _ I h) λus s1 ⟨vs,H1,I1,r,q⟩=>⟨I1.kIn,?_⟩) he hpl;exact aJq M F hr hb hd hx I1 r q
end

section
variable {X:Cx}{CX:CXT}{k:Nat}{f C:Addr}{fd:FuncData}{ps ks:List Str}{sp:Sp}{E:XK}{x m:Str}{p pos apos kpos:Pos}{e o:Expr}{es:List Expr}{kws:List Keyword}{te ta:TE}{t tk:TA}{nm:Option Str}

variable {g:List Value->List Value->List Value}{gV:List V->List V->List V}
end

structure aQ (N P:List Str)(sc:Scope):Prop where
 kind:sc.kind=.function
 co:sc.isCoroutine=false
 gen:sc.isGenerator=false
 nd:N.Nodup
 pre:N.take P.length=P
 par:∀ x∈P,sc.names.lookup x=some .local\/sc.names.lookup x=some .cell
 nofree:∀ y∈sc.names,y.2≠.free
theorem xfs {N P:List Str}{sc:Scope}(a:sc.kind=.function:=by rfl)(b:sc.isCoroutine=false:=by rfl)(c:sc.isGenerator=false:=by rfl)(d:N.Nodup:=by decide +kernel)(e:N.take P.length=P:=by rfl)(f:∀ x∈P,sc.names.lookup x=some .local\/sc.names.lookup x=some .cell:=by decide +kernel)(g:∀ y∈sc.names,y.2≠.free:=by decide +kernel):aQ N P sc:=⟨a,b,c,d,e,f,g⟩

theorem wJ {kindOf:Str->Option NameKind}{x:Str}:∀ {binds:List (Str×Value)}{m:xSO},(∀ v,(x,v)∉binds)->bindL kindOf binds m x=m x
 | [],_,_=>rfl
 | (n,v)::r,m,h=>by
  unfold bindL;rw[wJ λw hw=>h w (xBi _ hw)];split
  ·have:x≠n:=by rintro rfl; exact h v xBk
   simp[this]
  ·rfl
theorem wL {kindOf:Str->Option NameKind}{x:Str}:∀ {binds:List (Str×Value)}{m:xSO},(∀ v,(x,v)∉binds)->bindC kindOf binds m x=m x
 | [],_,_=>rfl
 | (n,v)::r,m,h=>by
  unfold bindC;rw[wL λw hw=>h w (xBi _ hw)];split
  ·rfl
  ·have:x≠n:=by rintro rfl; exact h v xBk
   simp[this]
theorem wK {kindOf:Str->Option NameKind}{x:Str}{v:Value}:∀ {P:List Str}{vs:List Value}{i:Nat}{m:xSO},P.Nodup->P[i]?=some x->vs[i]?=some v->kindOf x=some .local ->
  bindL kindOf (P.zip vs) m x=some v
 | [],_,_,_,_,h,_,_=>by simp at h
 | _::_,[],_,_,_,_,h,_=>by simp at h
 | p::P,w::vs,0,m,nd,h1,h2,hk=>by
  simp at h1 h2; subst h1; subst h2;show bindL kindOf ((p,w)::P.zip vs) m p=_;unfold bindL;rw[wJ λv hv=>(xEg.mp nd).1 (xGd hv).1,xBe hk]
  simp
 | p::P,w::vs,i+1,m,nd,h1,h2,hk=>by
  show bindL kindOf ((p,w)::P.zip vs) m x=_;unfold bindL;exact wK (i:=i) (xEg.mp nd).2 (by simpa using h1) (by simpa using h2) hk
theorem wM {kindOf:Str->Option NameKind}{x:Str}{v:Value}:∀ {P:List Str}{vs:List Value}{i:Nat}{m:xSO},P.Nodup->P[i]?=some x->vs[i]?=some v->kindOf x≠some .local ->
  bindC kindOf (P.zip vs) m x=some v
 | [],_,_,_,_,h,_,_=>by simp at h
 | _::_,[],_,_,_,_,h,_=>by simp at h
 | p::P,w::vs,0,m,nd,h1,h2,hk=>by
  simp at h1 h2; subst h1; subst h2;show bindC kindOf ((p,w)::P.zip vs) m p=_;unfold bindC;rw[wL λv hv=>(xEg.mp nd).1 (xGd hv).1,xAy hk]
  simp
 | p::P,w::vs,i+1,m,nd,h1,h2,hk=>by
  show bindC kindOf ((p,w)::P.zip vs) m x=_;unfold bindC;exact wM (i:=i) (xEg.mp nd).2 (by simpa using h1) (by simpa using h2) hk

def start (N:List Str)(vs:List V):St:=vs.map some++List.replicate (N.length-vs.length) none

def iC (CX:CXT)(P:Program)(w:World)(K:xAd)(mg:xSO)(base:Heap)(N:List Str)(qual:Str)(scope:Scope)(f:Addr)(cd:Value)(A:Around)(outer:List Env)(s:Shared)(H:Hp)(E:XK):Cx where
 prog:=P
 w:=w
 K:=K
 mg:=mg
 base:=base
 A:=A.deeper (envOfC qual scope s.heap.objs.size f cd)
 N:=N
 s₀:=s
 H₀:=H
 env:=envOfC qual scope s.heap.objs.size f cd
 outer:=outer
 stack:=envOfC qual scope s.heap.objs.size f cd::outer
 ex:=[]
 calm:=true
 fn:=λ_=>true
 pn:=[]
 xe:=λe s'=>wpAny (model P w) (A.deeper (envOfC qual scope s.heap.objs.size f cd)) (leaving (envOfC qual scope s.heap.objs.size f cd) e) (λ_ s''=>CX outer H s E e s'') (λe' s''=>CX outer H s E e' s'') s'

theorem aAx {sc:Scope}{n:Nat}{x:Str}(h:sc.names.lookup x=some .cell):∃ c,(cellsFrom n sc.names []).lookup x=some c:=by
 have q:=xHb sc.names n [] (.inl h);exact xCv.mp q

theorem qU {CX:CXT}{P:Program}{w:World}{K:xAd}{mg:xSO}{base:Heap}{N ps:List Str}{qual:Str}{scope:Scope}{f:Addr}{cd:Value}{A:Around}{outer:List Env}{s s1:Shared}{H:Hp}{E:XK}{us:List Value}{vs:List V}
  (S:aQ N ps scope)(hd:A.handled=none)(e0:rB P w K mg base A outer s H)(hl:vs.length=ps.length)(r:bZ vs us)
  (x:InCallC s s.heap.objs.size (bindL (envOfC qual scope s.heap.objs.size f cd).kindOf (ps.zip us) λ_=>none) (cellsFrom (s.heap.objs.size+1) scope.names []) (bindC (envOfC qual scope s.heap.objs.size f cd).kindOf (ps.zip us) λ_=>none) s1) :
  Inv (iC CX P w K mg base N qual scope f cd A outer s H E) [] (start N vs) H s1:=by
 have hpl:ps.length<=N.length:=by have:=congrArg List.length S.pre; rw[xAt] at this; omega
 obtain⟨h1,tk,rfl,hk⟩:=x.done;have noA:∀ b:Addr,b∉(iC CX P w K mg base N qual scope f cd A outer s H E).ex:=λb z=>xBg (show b∈([]:List Addr) from z) (by simp)
 refine⟨⟨e0.mod,S.kind,rfl,rfl,xAi _,λy z c h1 h2=>?_,λy hy=>?_,λy c _ h=>?_,λ_=>hd,Around.frames_deeper e0.frames,.inr ⟨rfl,rfl⟩,λb z=>xBg z (noA b),e0.bs,e0.bsz,λb _ _=>noA b,λb z=>xBg z (noA b),e0.funs,e0.frf⟩,
  rfl,e0.bare,Un.kept hk,⟨_,x.toInCall.ns,λi y v h1 h2 h3=>?_⟩,λy c h=>⟨_,x.cell y c h⟩,e0.hok.fresh (xAi _),λy c h=>?_,λp hp=>xBg (show p∈([]:xPn) from hp) (by simp),e0.hok.kept hk,?_⟩
 ·exact name_of_addr x.apart (PySem.mem_of_lookup h1) (PySem.mem_of_lookup h2)
 ·have hy:scope.names.lookup y=some .cell\/scope.names.lookup y=some .free:=hy;rcases hy with hy | hy
  ·exact aAx hy
  ·exact xBg rfl (S.nofree _ (PySem.mem_of_lookup hy))
 ·exact xDw (x.above y c (PySem.mem_of_lookup h))
 ·have hi:i<vs.length:=by
   unfold start at h2
   by_cases hi:i<vs.length
   ·exact hi
   ·rw[xBh (by simpa using hi)] at h2;rw[xJi] at h2;split at h2 <;> cases h2
  have ha:vs[i]?=some v:=by
   unfold start at h2;rw[xBf (by simpa using hi),xAg] at h2;cases e:vs[i]? with
   | none=>rw[e] at h2; cases h2
   | some a=>rw[e] at h2; cases h2; rfl
  obtain⟨u,hu,rv⟩:=r.get ha
  have hp:ps[i]?=some y:=by
   rw[<- S.pre,xIy (by omega)]; exact h1
  have ndP:ps.Nodup:=by rw[<- S.pre]; exact S.nd.sublist (List.take_sublist _ _)
  refine⟨u,rv,?_⟩;rcases S.par y (xAu hp) with k | k
  ·exact .inl ⟨k,wK ndP hp hu k⟩
  ·obtain⟨c,e⟩:=aAx (n:=s.heap.objs.size+1) k;refine .inr ⟨.inl k,c,e,?_⟩;have q:=x.cell y c e;rw[wM ndP hp hu (by show scope.names.lookup y≠_; rw[k]; decide)] at q;exact q
 ·exact e0.hok.fresh (xDw (x.above y c (PySem.mem_of_lookup h)))
 ·unfold start;show _=N.length;rw[xAj,xAa,xEt];omega

theorem aAl {CX:CXT}{P:Program}{w:World}{K:xAd}{mg:xSO}{base:Heap}{k:Nat}{f:Addr}{name qual:Str}{params:Arguments}{body:List Stmt}{scope:Scope}{dV kV doc pm cdv ct oc:Value}{an od:Option Addr}
  {osl:xAO}{N ps:List Str}{sp:Sp}(lk:K.lookup f=some ⟨oc,od,.func (fnOf name qual params body scope dV kV doc pm an cdv ct),osl⟩) (hcd:codeIn K cdv qual=true) (S:aQ N ps scope)
  (len:∀ vs H Q E,sp vs H Q E->vs.length=ps.length)
  (hbody:∀ (A:Around) (outer:List Env) (s:Shared) (H:Hp) (vs:List V) (Q:VK) (E:XK),cL k (A.deeper (envOfC qual scope s.heap.objs.size f cdv))->sp vs H Q E ->
   ∃ t,PSs (iC CX P w K mg base N qual scope f cdv A outer s H E) body t/\t { nx:=λ_ H'=>Q .non H',rt:=Q } (start N vs) H) :
  aY P w K mg base CX (k+1) f (fnOf name qual params body scope dV kV doc pm an cdv ct) ps sp:=by
 refine⟨len,λA outer s H args us vs Q E hr e0 hb r hsp=>?_⟩;have hl:=len _ _ _ _ hsp;have KX:K.In s.heap:=e0.mod.kin.keeps λb o e=>(e0.bs b o e).1;have lim:s.heap.NoLimit:=e0.mod.nolimit.keeps λb o e=>(e0.bs b o e).1
 have hkind:∀ y∈ps.zip us,scope.names.lookup y.1=some .local\/(scope.names.lookup y.1=some .cell/\((cellsFrom (s.heap.objs.size+1) scope.names []).lookup y.1).isSome=true):=λ⟨n,v⟩ hy=>by
  rcases S.par n (xGd hy).1 with q | q
  ·exact .inl q
  ·exact .inr ⟨q,xHb _ _ _ (.inl q)⟩
 refine xHf hr.depth (KX _ _ lk) rfl S.co S.gen rfl (codeRec_of KX hcd) (hb _ _ _ _ ?_);refine xGj S.kind hkind λenv he s1 x=>?_;subst he;refine⟨lim.keeps x.toInCall.keep,xJu ?_⟩;obtain⟨t,ht,hq⟩:=hbody A outer s H vs Q E (hr.deeper _) hsp;have I:Inv (iC CX P w K mg base N qual scope f cdv A outer s H E) [] (start N vs) H s1:=qU S hr.hd e0 hl r x;refine xCr (ht [] s1 (start N vs) H _ I hq) (λfl s' hs=>?_) λe s' hs=>hs
 have fin:∀ {Z':St}{H':Hp}{v:V}{u:Value},Inv (iC CX P w K mg base N qual scope f cdv A outer s H E) [] Z' H' s'->cJ v u->Q v H'->CE outer P w H s Q u s':=
  λ{Z' H' v u} J rv q=>⟨v,H',J.os,J.bare,J.base,J.hok,rv,q⟩
 cases fl with
 | ret u=>
  obtain⟨v,Z',H',J,rv,q⟩:=hs;exact fin J rv q
 | next=>
  obtain⟨Z',H',J,q⟩:=hs;exact fin (v:=V.non) (u:=Value.none) J rfl q
 | brk=>
  obtain⟨_,_,_,q⟩:=hs;exact False.elim q
 | cont=>
  obtain⟨_,_,_,q⟩:=hs;exact False.elim q
section
variable {X:Cx}{x:Str}{p pos:Pos}{e:Expr}{es:List Expr}{t:TA}{id T:String}{r:List V->Hp->VK->Prop}

def tCB (r:List V->Hp->VK->Prop)(t:TA):TE:=λZ H Q=>t Z H λvs H1=>r vs H1 Q
theorem cC (hc:CallR X (.builtin id) r)(hg:Gl X x)(hm:X.mg x=none)(hv:bootBuiltins x=some (.builtin id))(ha:PA X (e::es) t)(hn:x≠"__name__" := by decide)(hdb:(x==("__debug__" : Str))=false:=by decide)
  (he:starEach (e::es) X.env=(false,eval e X.env)::starEach es X.env:=by rfl)(hpl:(backTo pos (starEach es X.env)).any (·.1)=false:=by rfl):PE X (.Call (.Name x p) (e::es) [] pos) (tCB r t):=by
 intro pins s Z H Q I h;refine xCl (lQ I hg hm hv ?_ hn hdb);exact PyProof.Rows.callWith_builtin1 (thn (ha pos pins s Z H _ I h) λus s1 ⟨vs,H1,I1,r1,q1⟩=>hc pins s1 Z H1 vs us Q I1 r1 q1) he hpl
theorem eG (hc:CallR X (.type T) r)(hg:Gl X x)(hm:X.mg x=none)(hv:bootBuiltins x=some (.type T))(ha:PA X (e::es) t)(hn:x≠"__name__" := by decide)(hdb:(x==("__debug__" : Str))=false:=by decide)
  (he:starEach (e::es) X.env=(false,eval e X.env)::starEach es X.env:=by rfl)(hpl:(backTo pos (starEach es X.env)).any (·.1)=false:=by rfl):PE X (.Call (.Name x p) (e::es) [] pos) (tCB r t):=by
 intro pins s Z H Q I h;refine xCl (lQ I hg hm hv ?_ hn hdb);exact xDc (thn (ha pos pins s Z H _ I h) λus s1 ⟨vs,H1,I1,r1,q1⟩=>hc pins s1 Z H1 vs us Q I1 r1 q1) he hpl
end
end L2
namespace HT
open PySem PyProof.Rows



section
open PySem.SeqAt
open PySem.AutoSeq1 (wpAny_loadPart')
open PySem.MeetsSeq PySem.MeetsSeq2 PySem.MeetsSeq3

end

section
variable {prog:Program}{w:World}{A:Around}{E:xVP}{s:Shared}



def sIx (n d:Nat):Option Int->Nat
 | none=>d
 | some v=>if v<0 then (v+(n:Int)).toNat else min v.toNat n
theorem sIx_none (n d:Nat):sIx n d none=d:=rfl
theorem sIx_nat (n d k:Nat):sIx n d (some (k:Int))=min k n:=by
 show (if (k:Int)<0 then ((k:Int)+(n:Int)).toNat else min (k:Int).toNat n)=min k n
 rw[if_neg (by omega),Int.toNat_natCast]

end
end HT
namespace L2
open PySem PySem.Spec PyProof.Rows PySem.W

abbrev TO:=St->Hp->(Option Int->Hp->Prop)->Prop
def PO (X:Cx)(e:Option Expr)(t:TO):Prop:=
 ∀ (pins:xPn) (s:Shared) (Z:St) (H:Hp) (Q:Option Int->Hp->Prop),Inv X pins Z H s->t Z H Q ->
  wpAny (model X.prog X.w) X.A (evalPart e X.env) (λu s'=>∃ o H',Inv X pins Z H' s'/\IsPart u o/\Q o H') X.xe s
def aNh:TO:=λ_ H Q=>Q none H
def aTa (t:TE):TO:=λZ H Q=>t Z H λx H1=>∃ i,x=.int i/\Q (some i) H1


section
variable {X:Cx}{e:Expr}{te:TE}{lo hi:Option Expr}{tl th:TO}{pos p2:Pos}

theorem aOc:PO X none aNh:=by
 intro pins s Z H Q I h;rw[evalPart_none];exact xAe ⟨none,H,I,.none,h⟩
theorem aOb (h:PE X e te):PO X (some e) (aTa te):=by
 intro pins s Z H Q I hw;rw[evalPart_some];refine thn (h pins s Z H _ I hw) λu s1 ⟨x,H1,I1,r1,q1⟩=>?_;obtain⟨i,rfl,q⟩:=q1;obtain⟨t,rfl⟩:=r1;exact⟨some i,H1,I1,.int i t,q⟩

def SlR (X:Cx)(r:V->Option Int->Option Int->Hp->VK->Prop):Prop:=
 ∀ (pins:xPn) (s:Shared) (Z:St) (H:Hp) (x:V) (v vl vu:Value) (lo hi:Option Int) (sl:Addr) (Q:VK),Inv X pins Z H s->cJ x v->s.heap.IsSliceOf sl vl vu .none->IsPart vl lo->IsPart vu hi->r x lo hi H Q ->
  ∃ T id,typeLookup (.type T) "__getitem__"=pure (some (.builtin id))/\s.TypeIs v T/\wpAny (model X.prog X.w) X.A (getItem v (.ref sl)) (EP X pins Z Q) X.xe s
def tSl (r:V->Option Int->Option Int->Hp->VK->Prop)(te:TE)(tl th:TO):TE:=λZ H Q=>te Z H λx H1=>tl Z H1 λl H2=>th Z H2 λu H3=>r x l u H3 Q
theorem aKa {r:V->Option Int->Option Int->Hp->VK->Prop}(hr:SlR X r)(he:PE X e te)(hl:PO X lo tl)(hu:PO X hi th):PE X (.Subscript e (.Slice lo hi none p2) pos) (tSl r te tl th):=by
 intro pins s Z H Q I h;refine Subscript_ (thn (he pins s Z H _ I h) λv s1 ⟨x,H1,I1,r1,q1⟩=>?_);refine wpAny_Slice (thn (hl pins s1 Z H1 _ I1 q1) λvl s2 ⟨l,H2,I2,pl,q2⟩=>thn (hu pins s2 Z H2 _ I2 q2) λvu s3 ⟨u,H3,I3,pu,q3⟩=>?_);rw[evalPart_none];refine xAe ?_;have I4:Inv X pins Z H3 { s3 with heap:=s3.heap.push { cls:=.type "slice",data:=.fields #[vl,vu,.none] } }:=I3.kept (t':=s3.toks) λb ob q=>xAf _ q;obtain⟨T,id,hT,ht,hg⟩:=hr pins { s3 with heap:=s3.heap.push { cls:=.type "slice",data:=.fields #[vl,vu,.none] } } Z H3 x v vl vu l u s3.heap.objs.size Q I4 r1 (Heap.IsSliceOf.new ..) pl pu q3;show wpAny (model X.prog X.w) X.A (subscriptTail e (.Slice lo hi none p2) v (.ref s3.heap.objs.size)) (EP X pins Z Q) X.xe { s3 with heap:=s3.heap.push { cls:=.type "slice",data:=.fields #[vl,vu,.none] } };exact tail_any (ops:=[.ref s3.heap.objs.size,v]) ht hT hg (by with_unfolding_all rfl)

def aDn (xs:List V)(lo hi:Option Int):List V:=(xs.drop (HT.sIx xs.length 0 lo)).take (HT.sIx xs.length xs.length hi-HT.sIx xs.length 0 lo)
theorem aAu (xs:List V)(lo hi:Option Int):(aDn xs lo hi).length<=xs.length:=by
 unfold aDn;rw[xAt,List.length_drop];omega

end

def ixN (n:Nat)(i:Int):Option Nat:=if 0<=i then (if i<n then some i.toNat else none) else if -(n:Int)<=i then some (i+n).toNat else none
def atI {α:Type}(xs:List α)(i:Int):Option α:=(ixN xs.length i).bind λj=>xs[j]?
theorem aOy {n:Nat}{i:Int}{j:Nat}(h:ixN n i=some j):seqIndex? i n=some j/\j<n/\-(n:Int)<=i/\i<n:=by
 unfold ixN at h
 by_cases h0:0<=i
 ·rw[xBe h0] at h
  by_cases h1:i<n
  ·rw[xBe h1] at h;have e:i.toNat=j:=xBp h;exact⟨by rw[seqIndex_of h0 h1,e],by omega,by omega,h1⟩
  ·rw[xAy h1] at h; cases h
 ·rw[xAy h0] at h
  by_cases h1:-(n:Int)<=i
  ·rw[xBe h1] at h;have e:(i+n).toNat=j:=xBp h;exact⟨by rw[seqIndex_neg (by omega) h1,e],by omega,h1,by omega⟩
  ·rw[xAy h1] at h; cases h
theorem yA {α:Type}{xs:List α}{i:Int}{v:α}(h:atI xs i=some v):∃ j,seqIndex? i xs.length=some j/\xs[j]?=some v/\j<xs.length/\-(xs.length:Int)<=i/\i<xs.length:=by
 unfold atI at h;cases e:ixN xs.length i with
 | none=>rw[e] at h; cases h
 | some j=>
  rw[e] at h;obtain⟨h1,h2,h3,h4⟩:=aOy e;exact⟨j,h1,h,h2,h3,h4⟩
theorem iF {α:Type}{xs:List α}{j:Nat}{v:α}(h:xs[j]?=some v):atI xs (j:Int)=some v:=by
 have hj:j<xs.length:=(xAc.mp h).1
 have e:ixN xs.length (j:Int)=some j:=by
  unfold ixN;rw[xBe (by omega),xBe (by omega)]; simp
 unfold atI; rw[e]; exact h

def aPt (b:Expr):Prop:=∀ o i,subscripted b false o i=operate [o,i] (getItem o i)
def IxR (X:Cx)(r:R2):Prop:=
 ∀ (value slice:Expr) (pins:xPn) (s:Shared) (Z:St) (H:Hp) (x y:V) (v u:Value) (Q:VK),Inv X pins Z H s->cJ x v->cJ y u->r x y H Q ->
  subscripted slice false v u=operate [v,u] (getItem v u)->wpAny (model X.prog X.w) X.A (subscriptTail value slice v u) (EP X pins Z Q) X.xe s
def MtR (X:Cx)(id:String)(r:V->List V->Hp->VK->Prop):Prop:=
 ∀ (pins:xPn) (s:Shared) (Z:St) (H:Hp) (x:V) (xs:List V) (v:Value) (us:List Value) (Q:VK),Inv X pins Z H s->cJ x v->bZ xs us->r x xs H Q ->
  wpAny (model X.prog X.w) X.A (call (.builtin id) (v::us)) (EP X pins Z Q) X.xe s
section
variable {X:Cx}{a b:Expr}{ta tb:TE}{pos:Pos}
theorem eE {r:R2}(hr:IxR X r)(ha:PE X a ta)(hb:PE X b tb)(hs:aPt b):PE X (.Subscript a b pos) (tOp r ta tb):=by
 intro pins s Z H Q I h;exact Subscript_ (aSl ha hb I h λv u s2 x y H2 I2 rx ry q=>hr a b pins s2 Z H2 x y v u Q I2 rx ry q (hs _ _))

inductive zG (K:xAd)(x:V)(y:V)(H:Hp)(Q:VK):Prop
 | mk (p:_)(xs:_)(i:_)(v:_)(h0_:x=.ref p)(h1_:y=.int i)(h2_:SqL K H p xs)(h3_:atI xs i=some v)(h4_:Q v H)
inductive aTs (K:xAd)(x:V)(y:V)(H:Hp)(Q:VK):Prop
 | mk (p:_)(xs:_)(i:_)(v:_)(h0_:x=.ref p)(h1_:y=.int i)(h2_:SqT K H p xs)(h3_:atI xs i=some v)(h4_:Q v H)
inductive aWy (x:V)(y:V)(H:Hp)(Q:VK):Prop
 | mk (z:_)(i:_)(c:_)(h0_:x=.str z)(h1_:y=.int i)(h2_:z.length<=sizeLine)(h3_:atI z.cps.toList i=some c)(h4_:Q (.str ⟨#[c]⟩) H)
theorem cY:IxR X (zG X.K):=by
 intro value slice pins s Z H x y v u Q I rx ry h hs;obtain⟨p,xs,i,z,rfl,rfl,hq,he,q⟩:=h;cases rx;obtain⟨t,rfl⟩:=ry;obtain⟨its,r,pl,hz⟩:=I.list hq;obtain⟨j,h1,h2,h3,h4,h5⟩:=yA he;obtain⟨w,ew,rw'⟩:=r.get h2;have hl:=r.length;have hn:=qR;have fin:EP X pins Z Q w s:=⟨z,H,I,rw',q⟩
 by_cases h0:0<=i
 ·have hj:i.toNat=j:=by
   rw[seqIndex_of h0 h5] at h1;exact xBp h1
  exact item_listR pl.isList h0 (by omega) (by rw[hj]; simpa using ew) fin hs
 ·have hj:(i+(its.toArray.size:Int)).toNat=j:=by
   rw[seqIndex_neg (by omega) h4] at h1;rw[xAw,<- hl];exact xBp h1
  exact subscriptTail_builtinR (x:=w) pl.isList.typeIs slot_list_getitem.lookup
   (wpAny_getItem_list_neg (Q:=λr s'=>r=w/\EP X pins Z Q r s') pl.isList (by omega) (by rw[xAw] <;> omega) (by omega) (by rw[hj]; simpa using ew) ⟨rfl,fin⟩) hs
theorem aDd:IxR X (aTs X.K):=by
 intro value slice pins s Z H x y v u Q I rx ry h hs;obtain⟨p,xs,i,z,rfl,rfl,hq,he,q⟩:=h;cases rx;obtain⟨t,rfl⟩:=ry;obtain⟨its,r,pl,hz⟩:=I.tuple hq;obtain⟨j,h1,h2,h3,h4,h5⟩:=yA he;obtain⟨w,ew,rw'⟩:=r.get h2;have hl:=r.length;have hn:=qR;have fin:EP X pins Z Q w s:=⟨z,H,I,rw',q⟩
 exact subscriptTail_builtinR (x:=w) pl.typeIs slot_tuple_getitem.lookup
  (getItem_tuple (j:=j) (Q:=λr s'=>r=w/\EP X pins Z Q r s') pl (by omega) (by omega) (by rw[xAw,<- hl]; exact h1) (by simpa using ew) ⟨rfl,fin⟩) hs
theorem aSe:IxR X aWy:=by
 intro value slice pins s Z H x y v u Q I rx ry h hs;obtain⟨z,i,c,rfl,rfl,hz,he,q⟩:=h;obtain⟨t,rfl⟩:=rx;obtain⟨t',rfl⟩:=ry;obtain⟨j,h1,h2,h3,h4,h5⟩:=yA he;have hl:z.cps.toList.length=z.length:=by simp[Str.length]
 rw[hl] at h1 h4 h5;have hn:=qR
 exact tail_any (typeIs_str s z t) slot_str_getitem.lookup (getItem_str (c:=c) (by
  have e1:decide (i < -(2^63:Int))=false:=xBj (by omega);have e2:decide (i≥2^63)=false:=xBj (by omega);rw[e1,e2,xJj]) (by rw[h1]; simpa using h2) ⟨.str ⟨#[c]⟩,H,I.tok _,⟨_,rfl⟩,q⟩) hs


theorem wV (lo hi:Option Int)(n:Nat):(sliceBounds lo hi none n).1=((HT.sIx n 0 lo:Nat):Int)/\(sliceBounds lo hi none n).2.1=((HT.sIx n n hi:Nat):Int)/\(sliceBounds lo hi none n).2.2=1:=by
 refine⟨?_,?_,rfl⟩
 ·cases lo with
  | none=>simp[sliceBounds,HT.sIx]
  | some i=>
   simp only[sliceBounds,HT.sIx,Option.getD_none,show (1:Int)>0 by decide,if_true]
   by_cases h:i<0
   ·simp only[h,if_true] <;> omega
   ·simp only[h,if_false] <;> omega
 ·cases hi with
  | none=>simp[sliceBounds,HT.sIx]
  | some i=>
   simp only[sliceBounds,HT.sIx,Option.getD_none,show (1:Int)>0 by decide,if_true]
   by_cases h:i<0
   ·simp only[h,if_true] <;> omega
   ·simp only[h,if_false] <;> omega
theorem uR (its:List Value)(lo hi:Option Int):slicePick its.toArray lo hi none=((its.drop (HT.sIx its.length 0 lo)).take (HT.sIx its.length its.length hi-HT.sIx its.length 0 lo)).toArray:=by
 obtain⟨h1,h2,h3⟩:=wV lo hi its.toArray.size;unfold slicePick;rw[h1,h2,h3];simp only[sliceRange_one,pick_run,List.size_toArray] <;> rfl
inductive aWv (K:xAd)(x:V)(lo hi:Option Int)(H:Hp)(Q:VK):Prop
 | mk (a:Addr)(xs:List V)(h1:x=.ref a)(h2:SqL K H a xs)(q:∀ p,H p=none->Q (.ref p) (upd H p (.lst (aDn xs lo hi))))
theorem aNo:SlR X (aWv X.K):=by
 intro pins s Z H x v vl vu lo hi sl Q I rx hs pl pu h;obtain⟨a,xs,rfl,hx,q⟩:=h;cases rx;obtain⟨its,r,ht,hz⟩:=I.list hx;have hlen:=r.length;refine⟨"list",_,slot_list_getitem.lookup,ht.isList.typeIs,?_⟩;refine wpAny_getItem_list_slice ht.isList hs pl pu .none (by simp) ?_ (by rw[xAw] <;> omega)
 rw[uR,<- hlen];refine⟨.ref s.heap.objs.size,_,I.laid (t':=s.toks) (o:=.lst (aDn xs lo hi)) (λb ob q=>xAf _ q) (xAi _) ?_,rfl,q _ (I.hok.fresh (xAi _))⟩;exact⟨xAr (aAu xs lo hi) hz,_,0,(r.drop (HT.sIx xs.length 0 lo)).take (HT.sIx xs.length xs.length hi-HT.sIx xs.length 0 lo),xAk _ rfl⟩

def pL:V->Bool
 | .non=>true
 | .bl _=>true
 | .int _=>true
 | .str _=>true
 | _=>false
def eqV:V->V->Bool
 | .non,.non=>true
 | .bl a,.bl b=>a==b
 | .bl a,.int b=>(if a then 1 else 0)==b
 | .int a,.bl b=>a==(if b then 1 else 0)
 | .int a,.int b=>a==b
 | .str a,.str b=>a==b
 | _,_=>false
theorem aSj {A:Around}{s:Shared}{y x:V}{u v:Value}(ry:cJ y u)(rx:cJ x v)(fy:pL y=true)(fx:pL x=true):SeqAt.EqAt A s u v (eqV y x):=by
 cases y with
 | non=>
  cases ry;cases x with
  | non=>cases rx; exact xIm _
  | bl b=>cases rx; exact SeqAt.EqAt.none_bool b
  | int b=>obtain⟨t,rfl⟩:=rx; exact SeqAt.EqAt.none_int b t
  | str b=>obtain⟨t,rfl⟩:=rx; exact SeqAt.EqAt.none_str b t
  | _=>exact xBg (show false=true from fx) xAs
 | bl a=>
  cases ry;cases x with
  | non=>cases rx; exact SeqAt.EqAt.bool_none a
  | bl b=>cases rx; exact SeqAt.EqAt.bool_bool a b
  | int b=>obtain⟨t,rfl⟩:=rx; exact SeqAt.EqAt.bool_int a b t
  | str b=>obtain⟨t,rfl⟩:=rx; exact SeqAt.EqAt.bool_str a b t
  | _=>exact xBg (show false=true from fx) xAs
 | int a=>
  obtain⟨t',rfl⟩:=ry;cases x with
  | non=>cases rx; exact SeqAt.EqAt.int_none a t'
  | bl b=>cases rx; exact SeqAt.EqAt.int_bool a t' b
  | int b=>obtain⟨t,rfl⟩:=rx; exact SeqAt.EqAt.int_int a t' b t
  | str b=>obtain⟨t,rfl⟩:=rx; exact SeqAt.EqAt.int_str a t' b t
  | _=>exact xBg (show false=true from fx) xAs
 | str a=>
  obtain⟨t',rfl⟩:=ry;cases x with
  | non=>cases rx; exact SeqAt.EqAt.str_none a t'
  | bl b=>cases rx; exact SeqAt.EqAt.str_bool a t' b
  | int b=>obtain⟨t,rfl⟩:=rx; exact SeqAt.EqAt.str_int a t' b t
  | str b=>obtain⟨t,rfl⟩:=rx; exact SeqAt.EqAt.str_str a t' b t
  | _=>exact xBg (show false=true from fx) xAs
 | _=>exact xBg (show false=true from fy) xAs
def eqU (x:V)(u:Value):Bool:=match u with
 | .none=>eqV .non x
 | .bool b=>eqV (.bl b) x
 | .int i _=>eqV (.int i) x
 | .str z _=>eqV (.str z) x
 | _=>false
theorem aMf {x y:V}{u:Value}(r:cJ y u)(f:pL y=true):eqU x u=eqV y x:=by
 cases y with
 | non=>cases r; rfl
 | bl b=>cases r; rfl
 | int i=>obtain⟨t,rfl⟩:=r; rfl
 | str z=>obtain⟨t,rfl⟩:=r; rfl
 | _=>exact xBg (show false=true from f) xAs
theorem yB {x:V}:∀ {xs:List V}{us:List Value},bZ xs us->xs.all pL=true->us.any (eqU x)=xs.any λy=>eqV y x
 | _,_,.nil,_=>rfl
 | y::xs,u::us,.cons r t,f=>by
  rw[xGy,xBw] at f;rw[xEv,xEv,aMf r f.1,yB t f.2]
theorem tT {A:Around}{s:Shared}{x:V}{v:Value}(rx:cJ x v)(fx:pL x=true):∀ {xs:List V}{us:List Value},bZ xs us->xs.all pL=true->∀ u∈us,SeqAt.EqAt A s u v (eqU x u)
 | _,_,.nil,_=>λu hu=>by cases hu
 | y::xs,u::us,.cons r t,f=>λu' hu=>by
  rw[xGy,xBw] at f;rcases xAo.mp hu with rfl | hu
  ·rw[aMf r f.1]; exact aSj r rx f.1 fx
  ·exact tT rx fx t f.2 u' hu
def inV (x:V)(xs:List V):Bool:=xs.any λy=>eqV y x
inductive rIn (K:xAd)(neg:Bool)(x:V)(y:V)(H:Hp)(Q:VK):Prop
 | mk (p:_)(xs:_)(h0_:y=.ref p)(h1_:(SqL K H p xs\/SqT K H p xs))(h2_:pL x=true)(h3_:xs.all pL=true)(h4_:Q (.bl (if neg then !inV x xs else inV x xs)) H)
theorem qJ:OpR X (compareOp .In) (rIn X.K false):=by
 intro pins s Z H x y v u Q I rx ry h;obtain⟨p,xs,rfl,hq,fx,fs,q⟩:=h;cases ry;rcases hq with hq | hq
 ·obtain⟨its,r,pl,hz⟩:=I.list hq;refine SeqAt.in_listAt (eqU x) pl.isList (λw hw=>tT rx fx r fs w (by simpa using hw)) ⟨.bl _,H,I,rfl,?_⟩;rw[show its.toArray.any (eqU x)=its.any (eqU x) by simp,yB r fs];exact q
 ·obtain⟨its,r,pl,hz⟩:=I.tuple hq;refine SeqAt.in_tupleAt (eqU x) pl (λw hw=>tT rx fx r fs w (by simpa using hw)) ⟨.bl _,H,I,rfl,?_⟩;rw[show its.toArray.any (eqU x)=its.any (eqU x) by simp,yB r fs];exact q

inductive aSq (K:xAd)(xs:List V)(H:Hp)(Q:VK):Prop
 | mk (p:_)(ys:_)(h0_:xs=[.ref p])(h1_:(SqL K H p ys\/SqT K H p ys))(h2_:Q (.int ys.length) H)
theorem cZ:CallR X (.builtin "len") (aSq X.K):=by
 intro pins s Z H xs us Q I r h;obtain⟨p,ys,rfl,hq,q⟩:=h;obtain⟨u,rfl,rx⟩:=iG r;cases rx;have hn:=qR;rcases hq with hq | hq
 ·obtain⟨its,r',pl,hz⟩:=I.list hq;have hlen:=r'.length;exact Calls.call_len_list pl.isList (by simp only[List.size_toArray] <;> omega) ⟨.int ys.length,H,I.tok _,⟨s.toks+1,by rw[xAw,hlen]⟩,q⟩
 ·obtain⟨its,r',pl,hz⟩:=I.tuple hq;have hlen:=r'.length;exact len_tuple pl (by simp only[List.size_toArray] <;> omega) ⟨.int ys.length,H,I.tok _,⟨s.toks+1,by rw[xAw,hlen]⟩,q⟩
theorem xY:CallR X (.builtin "len") (λxs H Q=>∃ z,xs=[.str z]/\z.length<=sizeLine/\Q (.int z.length) H):=by
 intro pins s Z H xs us Q I r h;obtain⟨z,rfl,hz,q⟩:=h;obtain⟨u,rfl,t,rfl⟩:=iG r;have hn:=qR;exact len_str (by omega) ⟨.int z.length,H,I.tok _,⟨_,rfl⟩,q⟩
inductive aSp (K:xAd)(xs:List V)(H:Hp)(Q:VK):Prop
 | mk (p:_)(ys:_)(h0_:xs=[.ref p])(h1_:(SqL K H p ys\/SqT K H p ys))(h2_:∀ l,H l=none->Q (.ref l) (upd H l (.lst ys)))
theorem pS:CallR X (.type "list") (aSp X.K):=by
 intro pins s Z H xs us Q I r h;obtain⟨p,ys,rfl,hq,q⟩:=h;obtain⟨u,rfl,rx⟩:=iG r;cases rx
 have fin:∀ (its:List Value),bZ ys its->ys.length<=sizeLine->∀ (h':Heap) (c':Nat),(∀ b o',s.heap.get? b=some o'->h'.get? b=some o') ->
   h'.get? s.heap.objs.size=some { cls:=.type "list",dict:=none,data:=.seq its.toArray c',slots:=#[] }->EP X pins Z Q (.ref s.heap.objs.size) { s with heap:=h' }:=λits r' hz h' c' kp e=>
  ⟨.ref s.heap.objs.size,_,I.laid (t':=s.toks) kp (xAi _) (show cU X.prog X.w _ h' _ (.lst ys) from ⟨hz,its,c',r',e⟩),rfl,q _ (I.hok.fresh (xAi _))⟩
 rcases hq with hq | hq
 ·obtain⟨its,r',pl,hz⟩:=I.list hq;have hlen:=r'.length;obtain⟨o,ho,hc,n,hd⟩:=pl.isList;exact call_list_seq p (.inl rfl) ho hc hd (λh' c' kp e=>fin its r' hz h' c' kp e) (by simp only[List.size_toArray] <;> omega)
 ·obtain⟨its,r',pl,hz⟩:=I.tuple hq;have hlen:=r'.length;obtain⟨o,ho,hc,n,hd⟩:=pl;exact call_list_seq p (.inr rfl) ho hc hd (λh' c' kp e=>fin its r' hz h' c' kp e) (by simp only[List.size_toArray] <;> omega)
theorem iE:CallR X (.type "tuple") (λxs H Q=>∃ p ys,xs=[.ref p]/\((SqL X.K H p ys/\∀ l,H l=none->Q (.ref l) (upd H l (.tup ys)))\/(SqT X.K H p ys/\Q (.ref p) H))):=by
 intro pins s Z H xs us Q I r h;obtain⟨p,ys,rfl,h⟩:=h;obtain⟨u,rfl,rx⟩:=iG r;cases rx;rcases h with⟨hq,q⟩ | ⟨hq,q⟩
 ·obtain⟨its,r',pl,hz⟩:=I.list hq;have hlen:=r'.length;refine call_tuple_list pl.isList (λh' kp=>?_) (by simp only[List.size_toArray] <;> omega)
  have I1:Inv X pins Z H { s with heap:=h' }:=I.kept (t':=s.toks) kp
  have I2:Inv X pins Z (upd H h'.objs.size (.tup ys)) { s with heap:=h'.push { cls:=.type "tuple",data:=.seq its.toArray } }:=
   I1.laid (t':=s.toks) (λb o e=>xAf _ e) (xAi _) (show cU X.prog X.w _ _ _ (.tup ys) from ⟨hz,its,r',IsTup.new _ _⟩)
  exact⟨.ref h'.objs.size,_,I2,rfl,q _ (I1.hok.fresh (xAi _))⟩
 ·obtain⟨its,r',pl,hz⟩:=I.tuple hq;exact call_tuple_same pl ⟨.ref p,H,I,rfl,q⟩

def tyV (K:xAd)(T:String)(x:V)(H:Hp):Prop:=match x with
 | .str _=>T="str"
 | .int _=>T="int"
 | .ref p=>(T="list" /\ ∃ xs,SqL K H p xs)\/(T="tuple" /\ ∃ o,K.lookup p=some o/\o.cls=.type "tuple" /\ o.dict=none) \/
   (T="dict" /\ ((∃ kvs,H p=some (.dK kvs))\/∃ kvs,H p=some (.dT kvs)))\/(T="set" /\ ∃ S n,H p=some (.set S n))
 | _=>False
theorem aIo {pins:xPn}{Z:St}{H:Hp}{s:Shared}{T:String}{x:V}{v:Value}(I:Inv X pins Z H s)(r:cJ x v)(ty:tyV X.K T x H) :
  s.TypeIs v T/\∀ a,v=.ref a->∃ ob,s.heap.get? a=some ob/\ob.dict=none:=by
 cases x with
 | str z=>
  obtain⟨t,rfl⟩:=r;cases (show T="str" from ty)
  exact⟨typeIs_str s z t,λ_ e=>nomatch e⟩
 | int i=>
  obtain⟨t,rfl⟩:=r;cases (show T="int" from ty)
  exact⟨typeIs_int s i t,λ_ e=>nomatch e⟩
 | ref p=>
  cases r;rcases ty with⟨rfl,xs,hq⟩ | ⟨rfl,o,hk,hc,hd⟩ | ⟨rfl,hk⟩ | ⟨rfl,S,n,hk⟩
  ·obtain⟨its,_,pl,_⟩:=I.list hq;refine⟨pl.isList.typeIs,λa e=>?_⟩;cases e;obtain⟨o,n,e,c,hd,_⟩:=pl;exact⟨o,e,hd⟩
  ·refine⟨⟨o,I.kIn p o hk,hc⟩,λa e=>?_⟩;cases e;exact⟨o,I.kIn _ o hk,hd⟩
  ·have z:∃ o,s.heap.get? p=some o/\o.ExactDict:=by
    rcases hk with⟨kvs,hk⟩ | ⟨kvs,hk⟩
    ·obtain⟨_,_,_,_,o,_,_,e,ex,_⟩:=I.hok p _ hk;exact⟨o,e,ex⟩
    ·obtain⟨_,_,_,_,o,_,_,e,ex,_⟩:=I.hok p _ hk;exact⟨o,e,ex⟩
   obtain⟨o,e,ex⟩:=z;refine⟨⟨o,e,ex.1⟩,λa e2=>?_⟩;cases e2;exact⟨o,e,ex.2.1⟩
  ·obtain⟨o,_,_,_,e,ex,_⟩:=I.hok p _ hk;refine⟨⟨o,e,ex.1⟩,λa e2=>?_⟩;cases e2;exact⟨o,e,ex.2.1⟩
 | _=>exact False.elim ty
def aVx (K:xAd)(T:String)(r:V->List V->Hp->VK->Prop)(to:TE):TE:=λZ H Q=>to Z H λx H1=>tyV K T x H1/\r x [] H1 Q
def tBM (K:xAd)(T:String)(r:V->List V->Hp->VK->Prop)(to:TE)(t:TA):TE:=λZ H Q=>to Z H λx H1=>tyV K T x H1/\t Z H1 λxs H2=>r x xs H2 Q
variable {o e:Expr}{es:List Expr}{to:TE}{t:TA}{name:Str}{apos cpos:Pos}{T id:String}{r:V->List V->Hp->VK->Prop}
theorem aRl (pa:PlainAttrs T)(slot:Slot T name id)(hty:typeOf (.builtin id)=pure (.type "method_descriptor"))(hm:MtR X id r)(ho:PE X o to)
  (hbase:attributeBase o name X.env (eval o X.env)=eval o X.env:=by rfl)(hline:(apos.endLine==cpos.line)=true:=by rfl):PE X (.Call (.Attribute o name apos) [] [] cpos) (aVx X.K T r to):=by
 intro pins s Z H Q I h;refine xJc hbase hline (thn (ho pins s Z H _ I h) λv s1 ⟨x,H1,I1,r1,ty,q1⟩=>?_);obtain⟨h1,h2⟩:=aIo I1 r1 ty;exact⟨T,id,pa,slot,hty,h1,h2,xEo rfl (PySem.evalArgs_none (hm pins s1 Z H1 x [] v [] Q I1 r1 .nil q1))⟩
theorem kU (pa:PlainAttrs T)(slot:Slot T name id)(hty:typeOf (.builtin id)=pure (.type "method_descriptor"))(hm:MtR X id r)(ho:PE X o to)(ha:PA X (e::es) t)
  (hbase:attributeBase o name X.env (eval o X.env)=eval o X.env:=by rfl)
  (hfew:((backTo cpos (starEach (e::es) X.env)).all (λx=>!x.1)&&(backToKw cpos (keywordEach [] X.env)).all (λx=>x.1.isSome)
   && decide ((e::es).length+([]:List Keyword).length+(if ([]:List Keyword).isEmpty then 0 else 1)<30))=true:=by rfl)
  (hline:(apos.endLine==cpos.line)=true:=by rfl)(hs:starEach (e::es) X.env=(false,eval e X.env)::starEach es X.env:=by rfl)(hplain:(backTo cpos (starEach es X.env)).any (·.1)=false:=by rfl) :
  PE X (.Call (.Attribute o name apos) (e::es) [] cpos) (tBM X.K T r to t):=by
 intro pins s Z H Q I h;refine wpAny_Call_method_late hbase hfew hline rfl (thn (ho pins s Z H _ I h) λv s1 ⟨x,H1,I1,r1,ty,q1⟩=>?_);obtain⟨h1,h2⟩:=aIo I1 r1 ty;refine⟨T,id,pa,slot,hty,h1,h2,?_⟩;have hA:=ha cpos pins s1 Z H1 _ I1 q1;rw[hs] at hA ⊢;refine xEo (by show (false||(backTo cpos (starEach es X.env)).any (·.1))=false; rw[hplain] <;> rfl) (xFy ?_)
 exact thn hA λus s2 ⟨vs,H2,I2,r2,q2⟩=>hm pins s2 Z H2 x vs v us Q I2 r1 r2 q2
/- xs.append(e),list.index on a module's tuple .. are MtR facts of 06m -/
end

def MtM (X:Cx)(id:String)(r:V->List V->Hp->VK->Prop):Prop:=
 ∀ (pins:xPn) (s:Shared) (Z:St) (H:Hp) (x:V) (xs:List V) (v:Value) (us:List Value) (Q:VK),Inv X pins Z H s->cJ x v->bZ xs us->r x xs H Q ->
  wpAny (model X.prog X.w) X.A (call (.builtin id) (v::us)) (EP X pins Z Q) X.xe s

theorem bZ.one:∀ {x:V}{us:List Value},bZ [x] us->∃ u,us=[u]/\cJ x u
 | _,_,.cons r .nil=>⟨_,rfl,r⟩
theorem bZ.zero:∀ {us:List Value},bZ [] us->us=[]
 | _,.nil=>rfl
theorem bZ.reverse {xs:List V}{us:List Value}(h:bZ xs us):bZ xs.reverse us.reverse:=by
 induction h with
 | nil=>exact .nil
 | cons r t ih=>rw[List.reverse_cons,List.reverse_cons]; exact bZ.append ih (.cons r .nil)
theorem bZ.rep {xs:List V}{us:List Value}(h:bZ xs us):∀ k:Nat,bZ (List.replicate k xs).flatten (List.replicate k us).flatten
 | 0=>.nil
 | k+1=>by
  rw[xFa,xFa,xEh,xEh];exact bZ.append h (bZ.rep h k)
theorem wE (its:List Value):∀ (k:Nat) (acc:List Value),
  List.foldl (λx1 x2=>x1++x2) acc.toArray (List.replicate k its.toArray)=(acc++(List.replicate k its).flatten).toArray
 | 0,acc=>by simp
 | k+1,acc=>by
  have e:acc.toArray++its.toArray=(acc++its).toArray:=by simp
  have e2:(acc++its)++(List.replicate k its).flatten=acc++(List.replicate (k+1) its).flatten:=by
   rw[xFa,xEh,xFn]
  rw[<- e2,<- wE its k (acc++its),<- e,xFa,List.foldl_cons]

section
variable {X:Cx}{pins:xPn}{Z:St}{H:Hp}{s:Shared}{l b:Addr}{xs ys zs:List V}

theorem Inv.lset {its its':List Value}{n:Nat}{f:Array Value->Array Value}{t':Nat}(I:Inv X pins Z H s)(hH:H l=some (.lst xs))
  (e:s.heap.get? l=some { cls:=.type "list",data:=.seq its.toArray n })(hf:f its.toArray=its'.toArray)(hv:bZ ys its')(hz:ys.length<=sizeLine) :
  Inv X pins Z (upd H l (.lst ys)) { s with heap:=s.heap.update l (Obj.mapSeq f),toks:=t' }:=by
 have q:=PySem.IsL.update e f;rw[hf] at q;refine I.write (x:=l) (e:=l) (by rw[hH]; exact trivial) (.inl rfl) (λb' u hb hu=>(xEn s.heap (Obj.mapSeq f) (Ne.symm hb)).trans hu) ⟨_,q⟩ ?_;exact⟨hz,its',_,hv,q⟩
theorem Inv.lnew {its:List Value}{t':Nat}(I:Inv X pins Z H s)(hv:bZ ys its)(hz:ys.length<=sizeLine) :
  Inv X pins Z (upd H s.heap.objs.size (.lst ys)) { s with heap:=s.heap.push { cls:=.type "list",data:=.seq its.toArray },toks:=t' }:=
 I.laid (λ_ _ q=>xAf _ q) (xAi _) ⟨hz,its,0,hv,xAk _ rfl⟩
theorem Inv.fresh (I:Inv X pins Z H s):H s.heap.objs.size=none:=I.hok.fresh (xAi _)
theorem Inv.lstM (I:Inv X pins Z H s)(hH:H l=some (.lst xs)):xs.length<=sizeLine/\∃ (its:List Value) (n:Nat),bZ xs its/\xs.length=its.length/\s.heap.get? l=some { cls:=.type "list",data:=.seq its.toArray n }:=by
 obtain⟨z,its,n,r,e⟩:=I.hok l _ hH;exact⟨z,its,n,r,r.length,e⟩

theorem zV {n:Nat}(h:n<=sizeLine):Builtin.List.listTooLong n=false:=by
 unfold Builtin.List.listTooLong;exact xBj (by omega)
end

section
variable {X:Cx}

def aNz:V->List V->Hp->VK->Prop:=λx vs H Q=>∃ l xs y,x=.ref l/\vs=[y]/\H l=some (.lst xs)/\xs.length<sizeLine/\Q .non (upd H l (.lst (xs++[y])))
theorem eX:MtM X "list.append" aNz:=by
 intro pins s Z H x vs v us Q I rx rv h;obtain⟨l,xs,y,rfl,rfl,hH,hz,q⟩:=h;cases rx;obtain⟨u,rfl,ru⟩:=rv.one;obtain⟨z,its,n,r,hl,e⟩:=I.lstM hH;refine call_meets F.slot_list_append ⟨_,e,rfl⟩ F.entry_list_append (F.args_list_append_2 _ _) (PySem.list_append l its.toArray n u (by rw[xAw]; omega)) ⟨e,?_⟩;refine⟨.non,_,I.lset (its':=its++[u]) hH e (by simp) (r.append (.cons ru .nil)) ?_,rfl,q⟩;rw[xAj,xHi];omega

def aNx:V->List V->Hp->VK->Prop:=λx vs H Q=>∃ l b xs zs,x=.ref l/\vs=[.ref b]/\H l=some (.lst xs)/\H b=some (.lst zs)/\xs.length+zs.length<=sizeLine/\Q .non (upd H l (.lst (xs++zs)))
theorem qN:MtM X "list.extend" aNx:=by
 intro pins s Z H x vs v us Q I rx rv h;obtain⟨l,b,xs,zs,rfl,rfl,hH,hB,hz,q⟩:=h;cases rx;obtain⟨u,rfl,ru⟩:=rv.one;cases ru;obtain⟨z,its,n,r,hl,e⟩:=I.lstM hH;obtain⟨z2,its2,n2,r2,hl2,e2⟩:=I.lstM hB;have hsz:its.toArray.size+its2.toArray.size<=sizeLine:=by rw[xAw,xAw]; omega
 have hlong:¬ (!its.toArray.isEmpty&&Builtin.List.listTooLong (its.toArray.size+its2.toArray.size))=true:=by
  rw[zV hsz,xIv];exact xAs
 refine call_meets F.slot_list_extend ⟨_,e,rfl⟩ F.entry_list_extend (F.args_list_extend_2 _ _)
  (AutoSeq1.list_extend_list_list_0 l its.toArray n b its2.toArray n2 hlong (by rw[xAw]; omega) (by omega)) ⟨e,e2,?_⟩
 refine⟨.non,_,I.lset (its':=its++its2) hH e (by simp) (r.append r2) ?_,rfl,q⟩;rw[xAj];omega



def aJt:V->List V->Hp->VK->Prop:=λx vs H Q=>∃ l xs,x=.ref l/\vs=[]/\H l=some (.lst xs)/\Q .non (upd H l (.lst xs.reverse))
theorem aCt:MtM X "list.reverse" aJt:=by
 intro pins s Z H x vs v us Q I rx rv h;obtain⟨l,xs,rfl,rfl,hH,q⟩:=h;cases rx;have hus:=rv.zero;subst hus;obtain⟨z,its,n,r,hl,e⟩:=I.lstM hH;refine call_meets F.slot_list_reverse ⟨_,e,rfl⟩ F.entry_list_reverse (F.args_list_reverse_1 _) (AutoSeq1.list_reverse_list_0 l its.toArray n (by rw[xAw]; omega)) ⟨e,?_⟩;refine⟨.non,_,I.lset (its':=its.reverse) hH e (by simp) r.reverse ?_,rfl,q⟩;rw[xFb];omega


inductive aNy (x:V)(y:V)(H:Hp)(Q:VK):Prop
 | mk (l:_)(b:_)(xs:_)(zs:_)(h0_:x=.ref l)(h1_:y=.ref b)(h2_:H l=some (.lst xs))(h3_:H b=some (.lst zs))(h4_:xs.length+zs.length<=sizeLine)(h5_:∀ p,H p=none->Q (.ref p) (upd H p (.lst (xs++zs))))
theorem eZ:OpR X (binaryOp .Add) aNy:=by
 intro pins s Z H x y v u Q I rx ry h;obtain⟨l,b,xs,zs,rfl,rfl,hH,hB,hz,q⟩:=h;cases rx;cases ry;obtain⟨z,its,n,r,hl,e⟩:=I.lstM hH;obtain⟨z2,its2,n2,r2,hl2,e2⟩:=I.lstM hB;refine PySem.P.add_list e e2 ?_ (by rw[xAw,xAw]; omega);have ea:its.toArray++its2.toArray=(its++its2).toArray:=by simp
 rw[ea];exact⟨.ref _,_,I.lnew (t':=s.toks) (r.append r2) (by rw[xAj]; omega),rfl,q _ I.fresh⟩
inductive aWw (x:V)(y:V)(H:Hp)(Q:VK):Prop
 | mk (l:_)(k:_)(xs:_)(h0_:x=.ref l)(h1_:y=.int k)(h2_:H l=some (.lst xs))(h3_:-(2^63)<=k)(h4_:k<2^63)(h5_:xs.length*k.toNat<=sizeLine)(h6_:∀ p,H p=none->Q (.ref p) (upd H p (.lst (List.replicate k.toNat xs).flatten)))
theorem aOv {α:Type}(xs:List α)(k:Nat):(List.replicate k xs).flatten.length=k*xs.length:=by
 induction k with
 | zero=>simp
 | succ k ih=>rw[xFa,xEh,xAj,ih,Nat.succ_mul,Nat.add_comm]
theorem aKk:OpR X (binaryOp .Mult) aWw:=by
 intro pins s Z H x y v u Q I rx ry h;obtain⟨l,k,xs,rfl,rfl,hH,h1,h2,hz,q⟩:=h;cases rx;obtain⟨t,rfl⟩:=ry;obtain⟨z,its,n,r,hl,e⟩:=I.lstM hH;have hlen:its.toArray.size*k.toNat<=sizeLine:=by rw[xAw,<- hl]; exact hz
 have hcap:¬ its.toArray.size*k.toNat>(2^63-1)/8:=by
  have:(sizeLine:Nat)<=(2^63-1)/8:=by decide
  omega
 have hfit:¬ (!Builtin.List.listFitsIndex k)=true:=by
  rw[fitsIndex_both h1 h2];exact xAs
 have hlong:¬ Builtin.List.listTooLong (its.toArray.size*k.toNat)=true:=by
  rw[zV hlen];exact xAs
 have hnew:List.foldl (λx1 x2=>x1++x2) #[] (List.replicate (if its.toArray.isEmpty=true then 0 else k.toNat) its.toArray)=(List.replicate k.toNat its).flatten.toArray:=by
  have f0:∀ m:Nat,List.foldl (λx1 x2=>x1++x2) #[] (List.replicate m its.toArray)=(List.replicate m its).flatten.toArray:=λm=>by
   have:=wE its m []
   rw[xEs] at this;exact this
  rw[f0];cases its with
  | nil=>simp
  | cons a r'=>rw[xAy (by simp)]
 refine wpAny_binaryOp_repeat_ref (T:="list") (U:="int") (by decide) ⟨_,e,rfl⟩ (λs'=>typeIs_int s' k t) noFill_list_mul F.fills_int_mul F.slot_int_rmul repeat_list F.slot_int_index.lookup
  (call_meets F.slot_int_rmul (typeIs_int s k t) F.entry_int_rmul (F.args_int_rmul_2 _ _) (int___rmul___int_list k t l its.toArray n)
   ⟨e,rfl,⟨_,e,rfl⟩,call_meets F.slot_list_mul ⟨_,e,rfl⟩ F.entry_list_mul (F.args_list_mul_2 _ _) (AutoListH.list___mul___list_int_3 l its.toArray n k t hfit hcap hlong) ⟨e,?_⟩⟩)
 rw[hnew];exact⟨.ref _,_,I.lnew (t':=s.toks) (r.rep k.toNat) (by rw[aOv,Nat.mul_comm]; exact hz),rfl,q _ I.fresh⟩

end

section
variable {prog:Program}{w:World}{A:Around}{E:xVP}{s:Shared}
set_option maxRecDepth 100000 in
end

section
variable {X:Cx}
end

section
variable {κ:Type} [DecidableEq κ]
def dC (kvs:List (κ×V))(k:κ):Option V:=(kvs.find? λkv=>decide (kv.1=k)).map (·.2)
def eY (kvs:List (κ×V))(k:κ)(v:V):List (κ×V):=
 if (kvs.any λkv=>decide (kv.1=k))=true then kvs.map (λkv=>if kv.1=k then (kv.1,v) else kv) else kvs++[(k,v)]

theorem eV {p:κ×V}{r:List (κ×V)}{k:κ}(e:p.1=k):dC (p::r) k=some p.2:=by simp[dC,List.find?_cons,e]
theorem fY {p:κ×V}{r:List (κ×V)}{k:κ}(e:¬ p.1=k):dC (p::r) k=dC r k:=by simp[dC,List.find?_cons,e]
theorem gR (k:κ):∀ kvs:List (κ×V),(kvs.any λkv=>decide (kv.1=k))=(dC kvs k).isSome
 | []=>rfl
 | p::r=>by
  rw[xEv]
  by_cases e:p.1=k
  ·simp only[eV e,decide_eq_true e,Bool.true_or,Option.isSome_some]
  ·rw[fY e,xBj e,Bool.false_or]; exact gR k r
theorem yG (k j:κ)(y:V):∀ kvs:List (κ×V),dC (kvs.map λkv=>if kv.1=k then (kv.1,y) else kv) j=(dC kvs j).map λx=>if j=k then y else x
 | []=>rfl
 | p::r=>by
  have ih:=yG k j y r;rw[xCd]
  by_cases h:p.1=k
  ·rw[xBe h]
   by_cases e:p.1=j
   ·rw[eV (p:=(p.1,y)) e,eV e,xGc,xBe (e.symm.trans h)]
   ·rw[fY (p:=(p.1,y)) e,fY e,ih]
  ·rw[xAy h]
   by_cases e:p.1=j
   ·rw[eV (p:=p) e,eV e,xGc,xAy (λz=>h (e.trans z))]
   ·rw[fY (p:=p) e,fY e,ih]
theorem vE (k j:κ)(y:V):∀ kvs:List (κ×V),dC kvs k=none->dC (kvs++[(k,y)]) j=if j=k then some y else dC kvs j
 | [],_=>by
  by_cases e:k=j
  ·rw[xBe e.symm]; exact eV (p:=(k,y)) e
  ·rw[xAy (λz=>e z.symm)]; exact fY (p:=(k,y)) e
 | p::r,hn=>by
  rw[List.cons_append];have hk:¬ p.1=k:=λz=>by rw[eV z] at hn; cases hn
  rw[fY hk] at hn;have ih:=vE k j y r hn
  by_cases e:p.1=j
  ·rw[eV e,eV e,xAy (λz=>hk (e.trans z))]
  ·rw[fY e,fY e,ih]
theorem lD (kvs:List (κ×V))(k j:κ)(y:V):dC (eY kvs k y) j=if j=k then some y else dC kvs j:=by
 unfold eY
 by_cases a:(kvs.any λkv=>decide (kv.1=k))=true
 ·rw[xBe a,yG];rw[gR] at a
  by_cases e:j=k
  ·obtain⟨x,hx⟩:=xCv.mp a;rw[xBe e,e,hx,xGc,xBe rfl]
  ·rw[xAy e];cases dC kvs j with
   | none=>rfl
   | some x=>rw[xGc,xAy e]
 ·rw[xAy a];refine vE k j y kvs ?_;rw[gR] at a;cases q:dC kvs k with
  | none=>rfl
  | some x=>rw[q] at a; exact (a rfl).elim
theorem eJ (kvs:List (κ×V))(k:κ)(v:V):(eY kvs k v).length<=kvs.length+1:=by
 unfold eY;split
 ·rw[xAa]; omega
 ·rw[xAj,xBd,xCq]; omega
theorem aJv {kvs:List (κ×V)}{k:κ}(v:V)(h:dC kvs k=none):eY kvs k v=kvs++[(k,v)]:=by
 unfold eY;rw[gR,h];exact xAy (by decide)

theorem kZ.isSome_eq {o:Option V}{u:Option Value}(r:kZ o u):o.isSome=u.isSome:=by
 cases o with
 | none=>cases u with
  | none=>rfl
  | some _=>exact (show False from r).elim
 | some _=>cases u with
  | none=>exact (show False from r).elim
  | some _=>rfl
theorem kZ.getD {o:Option V}{u:Option Value}{d:V}{d':Value}(r:kZ o u)(rd:cJ d d'):cJ (o.getD d) (u.getD d'):=by
 cases o with
 | none=>cases u with
  | none=>exact rd
  | some _=>exact (show False from r).elim
 | some _=>cases u with
  | none=>exact (show False from r).elim
  | some _=>exact r

theorem KV.val {kvs:List (κ×V)}{vs:List (κ×Value)}(r:KV kvs vs)(k:κ):kZ (dC kvs k) (valueAt vs k):=by
 unfold KV at r
 induction r with
 | nil=>exact True.intro
 | @cons p q ps qs h t ih=>
  obtain⟨h1,h2⟩:=h
  by_cases e:p.1=k
  ·have e':q.1=k:=h1.symm.trans e;have b:valueAt (q::qs) k=some q.2:=by simp[valueAt,List.find?_cons,e']
   rw[eV e,b]; exact h2
  ·have e':¬ q.1=k:=λz=>e (h1.trans z);have b:valueAt (q::qs) k=valueAt qs k:=by simp[valueAt,List.find?_cons,e']
   rw[fY e,b]; exact ih
theorem KV.any {kvs:List (κ×V)}{vs:List (κ×Value)}(r:KV kvs vs)(k:κ):(kvs.any λkv=>decide (kv.1=k))=vs.any λkv=>decide (kv.1=k):=by
 unfold KV at r
 induction r with
 | nil=>rfl
 | cons h t ih=>rw[xEv,xEv,ih,h.1]
theorem KV.repl {kvs:List (κ×V)}{vs:List (κ×Value)}(r:KV kvs vs)(k:κ){y:V}{u:Value}(ry:cJ y u) :
  KV (kvs.map λkv=>if kv.1=k then (kv.1,y) else kv) (vs.map λkv=>if kv.1=k then (kv.1,u) else kv):=by
 unfold KV at r ⊢
 induction r with
 | nil=>exact .nil
 | @cons p q ps qs h t ih=>
  rw[xCd,xCd];refine .cons ?_ ih;obtain⟨h1,h2⟩:=h
  by_cases e:p.1=k
  ·rw[xBe e,xBe (h1.symm.trans e)]; exact⟨h1,ry⟩
  ·rw[xAy e,xAy (λz=>e (h1.trans z))]; exact⟨h1,h2⟩
theorem KV.put {kvs:List (κ×V)}{vs:List (κ×Value)}(r:KV kvs vs)(k:κ){y:V}{u:Value}(ry:cJ y u):KV (eY kvs k y) (stored vs k u):=by
 unfold eY stored;rw[r.any k]
 by_cases e:(vs.any λkv=>decide (kv.1=k))=true
 ·rw[xBe e,xBe e]; exact r.repl k ry
 ·rw[xAy e,xAy e]; exact Paired.snoc r ⟨rfl,ry⟩
theorem KV.length {kvs:List (κ×V)}{vs:List (κ×Value)}(r:KV kvs vs):kvs.length=vs.length:=Paired.length r
end


theorem tW {P:Program}{w:World}{k:Key}{u:Value}(r:cJ (kV k) u):(dA P w).is k u=true:=by
 cases k with
 | inl i=>obtain⟨t,e⟩:=(show ∃ t,u=Value.int i t from r); subst e; exact aAd P w i t
 | inr x=>obtain⟨t,e⟩:=(show ∃ t,u=Value.str x t from r); subst e; exact aAc P w x t
theorem wD {P:Program}{w:World}:∀ {ks:List Key}{us:List Value},bZ (ks.map kV) us->ItemsAre (dA P w) ks us
 | [],_,r=>by rw[xHh] at r; cases r; exact .nil
 | k::ks,_,r=>by
  rw[xCd] at r;cases r with
  | cons h t=>exact .cons (tW h) (wD t)

abbrev KT (H:Hp):List (List Key×V)->List (List Key×Addr×Value)->Prop:=Paired λp q=>p.1=q.1/\H q.2.1=some (.tup (p.1.map kV))/\cJ p.2 q.2.2
theorem KT.val {H:Hp}{kvs:List (List Key×V)}{xs:List (List Key×Addr×Value)}(r:KT H kvs xs)(k:List Key):kZ (dC kvs k) ((atKey xs k).map (·.2)):=by
 induction r with
 | nil=>exact True.intro
 | @cons p q ps qs h t ih=>
  obtain⟨h1,_,h2⟩:=h
  by_cases e:p.1=k
  ·have e':q.1=k:=h1.symm.trans e;have b:atKey (q::qs) k=some q.2:=by simp[atKey,List.find?_cons,e']
   rw[eV e,b]; exact h2
  ·have e':¬ q.1=k:=λz=>e (h1.trans z);have b:atKey (q::qs) k=atKey qs k:=by simp[atKey,List.find?_cons,e']
   rw[fY e,b]; exact ih
theorem KT.repl {H:Hp}{kvs:List (List Key×V)}{xs:List (List Key×Addr×Value)}(r:KT H kvs xs)(k:List Key){y:V}{u:Value}(ry:cJ y u) :
  KT H (kvs.map λkv=>if kv.1=k then (kv.1,y) else kv) (xs.map (putAt k u)):=by
 induction r with
 | nil=>exact .nil
 | @cons p q ps qs h t ih=>
  rw[xCd,xCd];refine .cons ?_ ih;obtain⟨h1,h2,h3⟩:=h;unfold putAt
  by_cases e:p.1=k
  ·rw[xBe e,xBe (h1.symm.trans e)]; exact⟨h1,h2,ry⟩
  ·rw[xAy e,xAy (λz=>e (h1.trans z))]; exact⟨h1,h2,h3⟩
theorem KT.put {H:Hp}{kvs:List (List Key×V)}{xs:List (List Key×Addr×Value)}(r:KT H kvs xs)(k:List Key){b:Addr}{y:V}{u:Value}(hb:H b=some (.tup (k.map kV)))(ry:cJ y u) :
  KT H (eY kvs k y) (storedH xs k b u):=by
 have e:(kvs.any λkv=>decide (kv.1=k))=(atKey xs k).isSome:=by
  rw[gR,(r.val k).isSome_eq,xHy]
 unfold eY storedH;rw[e]
 by_cases q:(atKey xs k).isSome=true
 ·rw[xBe q,xBe q]; exact r.repl k ry
 ·rw[xAy q,xAy q]; exact Paired.snoc r ⟨rfl,hb,ry⟩
theorem KT.keeps {H H':Hp}{kvs:List (List Key×V)}{xs:List (List Key×Addr×Value)}(r:KT H kvs xs)(ht:∀ b ys,H b=some (.tup ys)->H' b=some (.tup ys)):KT H' kvs xs:=
 Paired.mapP r λ_ _ z=>⟨z.1,ht _ _ z.2.1,z.2.2⟩

section
variable {P:Program}{w:World}{H:Hp}{h:Heap}{a:Addr}
theorem aQa {u:HO}(ok:HOk P w H h)(e:Rd H a u):cU P w H h a u:=e.ok ok
theorem rM {kvs:List (Key×V)}(ok:HOk P w H h)(e:Rd H a (.dK kvs)):kvs.length<=sizeLine/\(a==sysModules)=false/\∃ vs,KV kvs vs/\h.DictOf (dA P w) a vs:=
 show cU P w H h a (.dK kvs) from aQa ok e
theorem aMh {kvs:List (Key×V)}(ok:HOk P w H h)(e:H a=some (.dK kvs)):kvs.length<=sizeLine/\(a==sysModules)=false/\∃ vs,KV kvs vs/\h.DictOf (dA P w) a vs:=rM ok (.inl e)
theorem lU {ks:List Key}(ok:HOk P w H h)(e:H a=some (.tup (ks.map kV))):(tupleKind (dA P w)).is h ks a:=by
 obtain⟨_,its,r,o,h1,h2,n,h3⟩:=(show cU P w H h a (.tup (ks.map kV)) from ok a _ e)
 exact⟨o,its.toArray,n,h1,h2,h3,by simpa using wD r⟩
theorem uD {kvs:List (List Key×V)}(ok:HOk P w H h)(e:Rd H a (.dT kvs)):kvs.length<=sizeLine/\(a==sysModules)=false /\
  ∃ xs,KT H kvs xs/\h.DictOfH (tupleKind (dA P w)) a xs:=by
 obtain⟨z,y,xs,r,o,es,ep,h1,h2,h3,h4,h5⟩:=(show cU P w H h a (.dT kvs) from aQa ok e)
 refine⟨z,y,xs,r,o,es,ep,h1,h2,h3,h4,λx hx=>?_,h5⟩
 have all:∀ {l:List (List Key×V)}{m:List (List Key×Addr×Value)},KT H l m->∀ x∈m,(tupleKind (dA P w)).is h x.1 x.2.1:=by
  intro l m q
  induction q with
  | nil=>intro x hx; exact nomatch hx
  | @cons p q ps qs hq t ih=>
   intro x hx;rcases xAo.mp hx with e | hx
   ·subst e;exact lU ok (by rw[<- hq.1]; exact hq.2.1)
   ·exact ih x hx
 exact all r x hx
theorem aQl {kvs:List (List Key×V)}(ok:HOk P w H h)(e:H a=some (.dT kvs)):kvs.length<=sizeLine/\(a==sysModules)=false /\
  ∃ xs,KT H kvs xs/\h.DictOfH (tupleKind (dA P w)) a xs:=uD ok (.inl e)
end

def dQ (H:Hp)(a:Addr)(y:V)(r:Option V):Prop:=
 (∃ kvs k,Rd H a (.dK kvs)/\y=kV k/\r=dC kvs k)\/∃ kvs k b,Rd H a (.dT kvs)/\y=.ref b/\H b=some (.tup (k.map kV))/\r=dC kvs k
def oI (H:Hp)(a:Addr)(y v:V)(H':Hp):Prop:=
 (∃ kvs k,H a=some (.dK kvs)/\y=kV k/\kvs.length<sizeLine/\H'=upd H a (.dK (eY kvs k v))) \/
 ∃ kvs k b,H a=some (.dT kvs)/\y=.ref b/\H b=some (.tup (k.map kV))/\kvs.length<sizeLine/\H'=upd H a (.dT (eY kvs k v))
theorem dQ.k {H:Hp}{a:Addr}{kvs:List (Key×V)}{k:Key}(e:H a=some (.dK kvs)):dQ H a (kV k) (dC kvs k):=.inl ⟨kvs,k,.inl e,rfl,rfl⟩
theorem dQ.t {H:Hp}{a b:Addr}{kvs:List (List Key×V)}{k:List Key}(e:H a=some (.dT kvs))(eb:H b=some (.tup (k.map kV))):dQ H a (.ref b) (dC kvs k):=.inr ⟨kvs,k,b,.inl e,rfl,eb,rfl⟩
theorem oI.k {H:Hp}{a:Addr}{kvs:List (Key×V)}{k:Key}{v:V}(e:H a=some (.dK kvs))(hl:kvs.length<sizeLine):oI H a (kV k) v (upd H a (.dK (eY kvs k v))):=.inl ⟨kvs,k,e,rfl,hl,rfl⟩
theorem oI.t {H:Hp}{a b:Addr}{kvs:List (List Key×V)}{k:List Key}{v:V}(e:H a=some (.dT kvs))(eb:H b=some (.tup (k.map kV)))(hl:kvs.length<sizeLine) :
  oI H a (.ref b) v (upd H a (.dT (eY kvs k v))):=.inr ⟨kvs,k,b,e,rfl,eb,hl,rfl⟩


section
variable {X:Cx}{pins:xPn}{Z:St}{H:Hp}{s:Shared}{a:Addr}{y v:V}{u r:Value}{o:Option V}{A:Around}{E:xVP}

theorem Inv.big (I:Inv X pins Z H s):sysModules<s.heap.objs.size:=by
 have h:mainGlobals<s.heap.objs.size:=(I.mod.glob.keeps I.bk).lt;exact Nat.lt_trans (by decide) h

theorem aHs {Q:xVP}(hu:A.units+1<cLine)(I:Inv X pins Z H s)(g:dQ H a y (some v))(ry:cJ y u)(h:∀ w' s',Inv X pins Z H s'->cJ v w'->Q w' s') :
  wpAny (model X.prog X.w) A (getItem (.ref a) u) Q E s:=by
 rcases g with⟨kvs,k,e,ey,l⟩ | ⟨kvs,k,b,e,ey,eb,l⟩
 ·subst ey;obtain⟨z,hd,vs,rel,dd⟩:=rM I.hok e;obtain⟨w',hw,rw'⟩:=kZ.some_of (v:=v) (o:=valueAt vs k) (by rw[l]; exact rel.val k);exact wpAny_getItem_of (tW ry) dd.mapOf hw (h w' _ (I.tok _) rw')
 ·subst ey;cases (show u=Value.ref b from ry)
  obtain⟨z,hd,xs,rel,dd⟩:=uD I.hok e;obtain⟨w',hw,rw'⟩:=kZ.some_of (v:=v) (o:=(atKey xs k).map (·.2)) (by rw[l]; exact rel.val k);obtain⟨p,hp,hp2⟩:=xDs.mp hw;refine wpAny_getItem_heap (tupleKind_room_in1 hu) (lU I.hok eb) dd hp ?_;rw[hp2];exact h w' _ (I.tok _) rw'
theorem aXn {Q:xVP}(hu:A.units+1<cLine)(I:Inv X pins Z H s)(g:dQ H a y o)(ry:cJ y u)(h:∀ s',Inv X pins Z H s'->Q (.bool o.isSome) s') :
  wpAny (model X.prog X.w) A (compareOp .In u (.ref a)) Q E s:=by
 rcases g with⟨kvs,k,e,ey,l⟩ | ⟨kvs,k,b,e,ey,eb,l⟩
 ·subst ey;obtain⟨z,hd,vs,rel,dd⟩:=rM I.hok e;refine wpAny_in_of (tW ry) hd dd.mapOf ?_;rw[<- (rel.val k).isSome_eq,<- l];exact h _ (I.tok _)
 ·subst ey;cases (show u=Value.ref b from ry)
  obtain⟨z,hd,xs,rel,dd⟩:=uD I.hok e;refine wpAny_in_heap (tupleKind_room_in1 hu) (lU I.hok eb) hd dd ?_;have q:=(rel.val k).isSome_eq;rw[xHy] at q;rw[<- q,<- l];exact h _ (I.tok _)
theorem aPh {Q:xVP}(hu:A.units+1<cLine)(I:Inv X pins Z H s)(g:dQ H a y o)(ry:cJ y u)(h:∀ s',Inv X pins Z H s'->Q (.bool (!o.isSome)) s') :
  wpAny (model X.prog X.w) A (compareOp .NotIn u (.ref a)) Q E s:=by
 rcases g with⟨kvs,k,e,ey,l⟩ | ⟨kvs,k,b,e,ey,eb,l⟩
 ·subst ey;obtain⟨z,hd,vs,rel,dd⟩:=rM I.hok e;refine wpAny_notIn_of (tW ry) hd dd.mapOf ?_;rw[<- (rel.val k).isSome_eq,<- l];exact h _ (I.tok _)
 ·subst ey;cases (show u=Value.ref b from ry)
  obtain⟨z,hd,xs,rel,dd⟩:=uD I.hok e;refine wpAny_notIn_heap (tupleKind_room_in1 hu) (lU I.hok eb) hd dd ?_;have q:=(rel.val k).isSome_eq;rw[xHy] at q;rw[<- q,<- l];exact h _ (I.tok _)
theorem sC {h':Heap}{t':Nat}{ob:HO}(I:Inv X pins Z H s)(mu:Mut (H a))(hs:Heap.SameBut a s.heap h')(he:∃ q,h'.get? a=some q)(new:cU X.prog X.w (upd H a ob) h' a ob) :
  Inv X pins Z (upd H a ob) { s with heap:=h',toks:=t' }:=
 I.write (x:=a) (e:=a) mu (.inl rfl) (λb q hb z=>(hs.2 b hb).trans z) he new
theorem aMi {P:Program}{w:World}{H':Hp}{h':Heap}{kvs:List (Key×V)}{vs:List (Key×Value)}(z:kvs.length<=sizeLine)(hd:(a==sysModules)=false)(rel:KV kvs vs)(dd:h'.DictOf (dA P w) a vs) :
  cU P w H' h' a (.dK kvs):=⟨z,hd,vs,rel,dd⟩
theorem aHr {H':Hp}{Q:Unit->Shared->Prop}(hu:A.units+1<cLine)(I:Inv X pins Z H s)(g:oI H a y v H')(ry:cJ y u)(rv:cJ v r)(h:∀ s',Inv X pins Z H' s'->Q () s') :
  wpAny (model X.prog X.w) A (setItem (.ref a) u r) Q E s:=by
 rcases g with⟨kvs,k,e,ey,l,eH⟩ | ⟨kvs,k,b,e,ey,eb,l,eH⟩
 ·subst ey eH;obtain⟨z,hd,vs,rel,dd⟩:=aMh I.hok e;have hz:vs.length<=sizeLine:=by rw[<- rel.length]; exact z
  have hl:(eY kvs k v).length<=sizeLine:=by have:=eJ kvs k v; omega
  refine wpAny_setItem_pairs (hsz:=hz) (tW ry) dd λh' dd' hs=>h _ ?_;have he:∃ q,h'.get? a=some q:=let ⟨q,_,_,hq,_⟩:=dd'; ⟨q,hq⟩;exact sC I (by rw[e]; exact True.intro) hs he (aMi hl hd (rel.put k rv) dd')
 ·subst ey eH;cases (show u=Value.ref b from ry)
  obtain⟨z,hd,xs,rel,dd⟩:=aQl I.hok e;have hz:xs.length<=sizeLine:=by rw[<- Paired.length rel]; exact z
  have hl:(eY kvs k v).length<=sizeLine:=by have:=eJ kvs k v; omega
  refine wpAny_setItem_heap (hsz:=hz) (tupleKind_room_in1 hu) (lU I.hok eb) dd λh' dd' hs=>h _ ?_;obtain⟨q,es,ep,hq,h2,h3,h4,_,h5⟩:=dd';refine sC I (by rw[e]; exact True.intro) hs ⟨q,hq⟩ ⟨hl,hd,_,(rel.put k eb rv).keeps λc ys ec=>?_,q,es,ep,hq,h2,h3,h4,h5⟩;rw[aG (fO ec e (λz=>nomatch z))];exact ec
end

section
variable {X:Cx}{pins:xPn}{Z:St}{H:Hp}{s:Shared}{a:Addr}{kvs:List (Key×V)}{k:Key}{u:Value}{A:Around}{E:xVP}
theorem aUt {Q:xVP}(I:Inv X pins Z H s)(e:Rd H a (.dK kvs))(h:∀ t s',Inv X pins Z H s'->Q (.int kvs.length t) s'):wpAny (model X.prog X.w) A (call (.builtin "len") [.ref a]) Q E s:=by
 obtain⟨z,hd,vs,rel,dd⟩:=rM I.hok e;refine call_len_dict hd dd (by rw[<- rel.length]; rw[sizeLine_eq] at z; omega) ?_;rw[<- rel.length];exact h _ _ (I.tok _)
end


def aUw (i:Expr):Prop:=∀ ov iv,subscripted i false ov iv=operate [ov,iv] (getItem ov iv)
theorem aNl {prog:Program}{w:World}{A:Around}{E:xVP}{s:Shared}{env:Env}{value slice:Expr}{pos:Pos}{T id:String}{Q:xVP}
  (hl:typeLookup (.type T) "__getitem__"=pure (some (.builtin id)))(hs:aUw slice)
  (h:wpAny (model prog w) A (eval value env) (λo s₁=>wpAny (model prog w) A (eval slice env) (λi s₂=>s₂.TypeIs o T/\wpAny (model prog w) A (getItem o i) Q E s₂) E s₁) E s) :
  wpAny (model prog w) A (eval (.Subscript value slice pos) env) Q E s:=by
 refine Subscript_ (xCr h (λo s₁ h₁=>xCr h₁ (λi s₂ h₂=>?_) λ_ _ x=>x) λ_ _ x=>x);obtain⟨hT,h₂⟩:=h₂;unfold subscriptTail;refine xAb ?_;rw[getitemInPython_of_ne hT.not_modules];refine xAb (wpAny_specialOf hT hl ?_)
 have fin:wpAny (model prog w) A (subscripted slice false o i) (λr s₃=>wpAny (model prog w) A (letTemporaryGo value o r>>=λ_=>pure r) Q E s₃) E s₂:=by
  rw[hs o i];exact wpAny_operating (xCr h₂ (λr s₃ h₃=>xAb (wpAny_letTemporaryGo (xAe h₃))) λ_ _ x=>x)
 first
  | exact xAe (xAb fin)
  | exact xAb (xAe (xAb fin))
  | exact xAb fin

theorem aAs {X:Cx}{pins:xPn}{Z:St}{H:Hp}{s:Shared}{a:Addr}{y:V}{o:Option V}(I:Inv X pins Z H s)(g:dQ H a y o):s.TypeIs (.ref a) "dict":=by
 rcases g with⟨kvs,k,e,_,_⟩ | ⟨kvs,k,b,e,_,_,_⟩
 ·obtain⟨_,_,vs,_,dd⟩:=rM I.hok e;exact dd.typeIs
 ·obtain⟨_,_,xs,_,dd⟩:=uD I.hok e;exact dd.typeIs

inductive aVf (x y:V)(H:Hp)(Q:VK):Prop
 | mk (a:Addr)(v:V)(h1:x=.ref a)(h2:dQ H a y (some v))(q:Q v H)
inductive aVe (x y:V)(H:Hp)(Q:Option V->Hp->Prop):Prop
 | mk (a:Addr)(o:Option V)(h1:x=.ref a)(h2:dQ H a y o)(q:Q o H)
def aTg (td ty:TE):TE:=λZ H Q=>td Z H λx H1=>ty Z H1 λy H2=>aVf x y H2 Q
def aVv (ty td:TE):TE:=λZ H Q=>ty Z H λy H1=>td Z H1 λx H2=>aVe x y H2 λo H2=>Q (.bl o.isSome) H2
def aNk (ty td:TE):TE:=λZ H Q=>ty Z H λy H1=>td Z H1 λx H2=>∃ a o,x=.ref a/\dQ H2 a y o/\Q (.bl (!o.isSome)) H2
inductive aSs (x y v:V)(H3:Hp)(R:Hp->Prop):Prop
 | mk (a:Addr)(H4:Hp)(h1:x=.ref a)(h2:oI H3 a y v H4)(q:R H4)
def aTp (td ty tv:TE):TS:=λD Z H=>tv Z H λv H1=>td Z H1 λx H2=>ty Z H2 λy H3=>aSs x y v H3 (D.nx Z)

section
variable {X:Cx}{o i e value:Expr}{pos pos' tpos:Pos}{td ty tv:TE}
theorem eB (hu:X.A.units+1<cLine)(ho:PE X o td)(hi:PE X i ty)(hs:aUw i):PE X (.Subscript o i pos) (aTg td ty):=by
 intro pins s Z H Q I h;refine aNl PySem.F.slot_dict_getitem.lookup hs (thn (ho pins s Z H _ I h) λu s1 ⟨x,H1,I1,rx,q1⟩=>thn (hi pins s1 Z H1 _ I1 q1) λiv s2 ⟨y,H2,I2,ry,a,v,ex,g,q2⟩=>?_);subst ex;obtain rfl:u=Value.ref a:=rx;exact⟨aAs I2 g,aHs hu I2 g ry λw' s3 I3 rw'=>⟨v,H2,I3,rw',q2⟩⟩
theorem tO (hu:X.A.units+1<cLine)(hi:PE X i ty)(ho:PE X o td):PC X .In i o (aVv ty td):=by
 intro pins s Z H Q I h;refine thn (hi pins s Z H _ I h) λiv s1 ⟨y,H1,I1,ry,q1⟩=>thn (ho pins s1 Z H1 _ I1 q1) λu s2 ⟨x,H2,I2,rx,a,ov,ex,g,q2⟩=>?_;subst ex;obtain rfl:u=Value.ref a:=rx;exact aXn hu I2 g ry λs3 I3=>⟨.bl ov.isSome,H2,I3,rfl,q2⟩
theorem qH (hu:X.A.units+1<cLine)(hi:PE X i ty)(ho:PE X o td):PC X .NotIn i o (aNk ty td):=by
 intro pins s Z H Q I h;refine thn (hi pins s Z H _ I h) λiv s1 ⟨y,H1,I1,ry,q1⟩=>thn (ho pins s1 Z H1 _ I1 q1) λu s2 ⟨x,H2,I2,rx,a,ov,ex,g,q2⟩=>?_;subst ex;obtain rfl:u=Value.ref a:=rx;exact aPh hu I2 g ry λs3 I3=>⟨.bl (!ov.isSome),H2,I3,rfl,q2⟩
theorem iL (hu:X.A.units+1<cLine)(ho:PE X o td)(hi:PE X i ty)(hv:PE X value tv)(hs:swapsWith value (some (.Subscript o i pos')) pos.line X.env=pure false) :
  PS X (.Assign [.Subscript o i pos'] value pos) (aTp td ty tv):=by
 intro pins s Z H D I h;refine wpAny_Assign_Subscript (thn (hv pins s Z H _ I h) λr s1 ⟨v,H1,I1,rv,q1⟩=>thn (ho pins s1 Z H1 _ I1 q1) λu s2 ⟨x,H2,I2,rx,q2⟩=>thn (hi pins s2 Z H2 _ I2 q2) λiv s3 ⟨y,H3,I3,ry,a,H4,ex,g,q3⟩=>?_) hs;subst ex;obtain rfl:u=Value.ref a:=rx;exact aHr hu I3 g ry rv λs4 I4=>⟨Z,H4,I4,q3⟩
end


theorem aAr {P:Program}{w:World}{H:Hp}(h:Heap)(hb:sysModules<h.objs.size):cU P w H (h.push { cls:=.type "dict",data:=.dict #[] }) h.objs.size (.dK []):=
 ⟨xCa _,xDf.mpr (Ne.symm (xAz hb)),[],.nil,Heap.DictOf.new h⟩
theorem aAo {P:Program}{w:World}{H:Hp}(h:Heap)(hb:sysModules<h.objs.size):cU P w H (h.push { cls:=.type "dict",data:=.dict #[] }) h.objs.size (.dT []):=
 ⟨xCa _,xDf.mpr (Ne.symm (xAz hb)),[],.nil,_,#[],0,xAk _ rfl,⟨rfl,rfl,rfl⟩,rfl,rfl,List.nodup_nil⟩
def aQu:TE:=λ_ H Q=>∀ p,H p=none->Q (.ref p) (upd H p (.dK []))
def aQt:TE:=λ_ H Q=>∀ p,H p=none->Q (.ref p) (upd H p (.dT []))
section
variable {X:Cx}{pos:Pos}
theorem lN:PE X (.Dict [] [] pos) aQu:=λpins s Z H Q I h=>
 wpAny_Dict_empty ⟨.ref s.heap.objs.size,_,I.laid (a:=s.heap.objs.size) (o:=.dK []) (t':=s.toks) (λ_ _ q=>xAf _ q) (xAi _) (aAr s.heap I.big),rfl,h _ (I.hok.fresh (xAi _))⟩
theorem tM:PE X (.Dict [] [] pos) aQt:=λpins s Z H Q I h=>
 wpAny_Dict_empty ⟨.ref s.heap.objs.size,_,I.laid (a:=s.heap.objs.size) (o:=.dT []) (t':=s.toks) (λ_ _ q=>xAf _ q) (xAi _) (aAo s.heap I.big),rfl,h _ (I.hok.fresh (xAi _))⟩
end

def aBm:List (TE×TE)->St->Hp->(List (V×V)->Hp->Prop)->Prop
 | [],_,H,Q=>Q [] H
 | (tk,tv)::r,Z,H,Q=>tk Z H λx H1=>tv Z H1 λy H2=>aBm r Z H2 λps H3=>Q ((x,y)::ps) H3
abbrev VV:List (V×V)->List (Value×Value)->Prop:=Paired λp q=>cJ p.1 q.1/\cJ p.2 q.2
def PPs (X:Cx)(pos:Pos)(keys:List (Option Expr))(values:List Expr)(trs:List (TE×TE)):Prop:=
 ∀ (pins:xPn) (s:Shared) (Z:St) (H:Hp) (Q:List (V×V)->Hp->Prop),Inv X pins Z H s->aBm trs Z H Q ->
  wpAny (model X.prog X.w) X.A (evalPairs (pairTrees keys values X.env pos)) (λvs s'=>∃ ps H',Inv X pins Z H' s'/\VV ps vs/\Q ps H') X.xe s
theorem aOa {X:Cx}{pos:Pos}:PPs X pos [] [] []:=λpins s Z H Q I h=>pairTrees_nil_walk ⟨[],H,I,.nil,h⟩
theorem oY {X:Cx}{pos:Pos}{k v:Expr}{ks:List (Option Expr)}{vs:List Expr}{tk tv:TE}{trs:List (TE×TE)}(hk:PE X k tk)(hv:PE X v tv)(hr:PPs X pos ks vs trs) :
  PPs X pos (some k::ks) (v::vs) ((tk,tv)::trs):=λpins s Z H Q I h=>
 pairTrees_cons_walk (thn (hk pins s Z H _ I h) λu s1 ⟨x,H1,I1,rx,q1⟩=>thn (hv pins s1 Z H1 _ I1 q1) λw2 s2 ⟨y,H2,I2,ry,q2⟩=>
  thn (hr pins s2 Z H2 _ I2 q2) λws s3 ⟨ps,H3,I3,rel,q3⟩=>⟨(x,y)::ps,H3,I3,.cons ⟨rx,ry⟩ rel,q3⟩)

def qP (kvs more:List (Key×V)):List (Key×V):=more.foldl (λacc kv=>eY acc kv.1 kv.2) kvs
theorem KV.merge:∀ {more:List (Key×V)}{rs:List (Key×Value)}{kvs:List (Key×V)}{vs:List (Key×Value)},KV more rs->KV kvs vs->KV (qP kvs more) (merged vs rs):=by
 intro more rs kvs vs r;unfold KV at r
 induction r generalizing kvs vs with
 | nil=>intro q; exact q
 | @cons p q ps qs h t ih=>
  intro r0
  have e:KV (eY kvs p.1 p.2) (stored vs q.1 q.2):=by
   have:=r0.put p.1 h.2
   rw[<- h.1]; exact this
  exact ih e
theorem nO:∀ (more kvs:List (Key×V)),(qP kvs more).length<=kvs.length+more.length
 | [],kvs=>by show kvs.length<=kvs.length+0; omega
 | p::r,kvs=>by
  have h1:=nO r (eY kvs p.1 p.2);have h2:=eJ kvs p.1 p.2;show (qP (eY kvs p.1 p.2) r).length<=_;rw[xBd]; omega
theorem uK {P:Program}{w:World}:∀ {kvs:List (Key×V)}{ws:List (Value×Value)},VV (kvs.map λkv=>(kV kv.1,kv.2)) ws->∃ rs,Carries (dA P w) ws rs/\KV kvs rs
 | [],_,r=>by rw[xHh] at r; cases r; exact⟨[],True.intro,.nil⟩
 | p::kvs,_,r=>by
  rw[xCd] at r;cases r with
  | @cons a b as bs h t=>
   obtain⟨rs,c,q⟩:=uK (P:=P) (w:=w) t;obtain⟨b1,b2⟩:=b;exact⟨(p.1,b2)::rs,⟨tW h.1,rfl,c⟩,.cons ⟨rfl,h.2⟩ q⟩
def aTf (trs:List (TE×TE)):TE:=λZ H Q=>∀ p,H p=none->aBm trs Z (upd H p (.dK [])) λps H2=>H2 p=some (.dK [])/\∃ kvs:List (Key×V),ps=kvs.map (λkv=>(kV kv.1,kv.2))/\kvs.length<=15/\Q (.ref p) (upd H2 p (.dK (qP [] kvs)))
theorem aOf {X:Cx}{pos:Pos}{keys:List (Option Expr)}{values:List Expr}{trs:List (TE×TE)}(h:PPs X pos keys values trs)(hall:keys.all (·.isSome)=true)(hl:keys.length=values.length)(h0:keys≠[])
  (h15:keys.length<=15):PE X (.Dict keys values pos) (aTf trs):=by
 intro pins s Z H Q I q;have hn:=I.hok.fresh (xAi s.heap.objs.size);have I1:=I.laid (a:=s.heap.objs.size) (o:=.dK []) (h':=s.heap.push { cls:=.type "dict",data:=.dict #[] }) (t':=s.toks) (λ_ _ q=>xAf _ q) (xAi _) (aAr s.heap I.big);refine wpAny_Dict_walk (knd:=dA X.prog X.w) hall hl h0 h15 (thn (h pins _ Z _ _ I1 (q _ hn)) λws s2 ⟨ps,H2,I2,rel,e,kvs,ep,lk,q2⟩=>?_);subst ep;obtain⟨rs,c,rk⟩:=uK (P:=X.prog) (w:=X.w) rel;obtain⟨z,hd,vs0,r0,dd⟩:=aMh I2.hok e;cases r0;refine⟨rs,c,dd,λh' dd' hs=>⟨.ref s.heap.objs.size,_,?_,rfl,q2⟩⟩
 have hz:(qP [] kvs).length<=sizeLine:=by
  have h1:=nO kvs [];rw[xCq] at h1;rw[sizeLine_eq]; omega
 have he:∃ q,h'.get? s.heap.objs.size=some q:=let ⟨q,_,_,hq,_⟩:=dd'; ⟨q,hq⟩;exact sC I2 (by rw[e]; exact True.intro) hs he (aMi hz hd (rk.merge .nil) dd')


structure M1 (X:Cx)(o:Expr)(m:Str)(apos:Pos)(e:Expr)(cpos:Pos):Prop where
 base:attributeBase o m X.env (eval o X.env)=eval o X.env
 few:((backTo cpos (starEach [e] X.env)).all (λx=>!x.1)&&(backToKw cpos (keywordEach [] X.env)).all (λx=>x.1.isSome)
  && decide (([e]:List Expr).length+([]:List Keyword).length+(if ([]:List Keyword).isEmpty then 0 else 1)<30))=true
 line:(apos.endLine==cpos.line)=true
 trees:backTo cpos (starEach [e] X.env)=[(false,eval e X.env)]

def IsD (H:Hp)(a:Addr):Prop:=(∃ kvs,Rd H a (.dK kvs))\/∃ kvs,Rd H a (.dT kvs)
theorem aLx {X:Cx}{pins:xPn}{Z:St}{H:Hp}{s:Shared}{a:Addr}(I:Inv X pins Z H s)(d:IsD H a) :
  s.TypeIs (.ref a) "dict" /\ (∀ b,Value.ref a=.ref b->∃ ob,s.heap.get? b=some ob/\ob.dict=none)/\(a==sysModules)=false:=by
 rcases d with⟨kvs,e⟩ | ⟨kvs,e⟩
 ·obtain⟨_,hd,vs,_,dd⟩:=rM I.hok e;refine⟨dd.typeIs,λb q=>?_,hd⟩;cases q;obtain⟨ob,_,_,h1,h2,_⟩:=dd;exact⟨ob,h1,h2.2.1⟩
 ·obtain⟨_,hd,xs,_,dd⟩:=uD I.hok e;refine⟨dd.typeIs,λb q=>?_,hd⟩;cases q;obtain⟨ob,_,_,h1,h2,_⟩:=dd;exact⟨ob,h1,h2.2.1⟩

section
variable {X:Cx}{pins:xPn}{Z:St}{H:Hp}{s:Shared}{a:Addr}{y d:V}{u r:Value}{o:Option V}{A:Around}{E:xVP}
theorem aMk {Q:xVP}(hu:A.units+1<cLine)(I:Inv X pins Z H s)(g:dQ H a y o)(ry:cJ y u)(h:∀ w' s',Inv X pins Z H s'->cJ (o.getD .non) w'->Q w' s') :
  wpAny (model X.prog X.w) A (call (.builtin "dict.get") [.ref a,u]) Q E s:=by
 rcases g with⟨kvs,k,e,ey,l⟩ | ⟨kvs,k,b,e,ey,eb,l⟩
 ·subst ey;obtain⟨z,hd,vs,rel,dd⟩:=rM I.hok e;refine call_meetsIn xFq dd.typeIs xJp (xJh _ _) (meets_dict_get (dA X.prog X.w) a (tW ry) hd) ⟨_,dd.mapOf,h _ _ (I.tok _) ?_⟩;rw[l];exact (rel.val k).getD rfl
 ·subst ey;cases (show u=Value.ref b from ry)
  obtain⟨z,hd,xs,rel,dd⟩:=uD I.hok e;refine call_meetsIn xFq dd.typeIs xJp (xJh _ _) (meetsH_dict_get (tupleKind (dA X.prog X.w)) a b hd) ⟨tupleKind_room_in1 hu,k,xs,lU I.hok eb,dd,h _ _ (I.tok _) ?_⟩;rw[l];exact (rel.val k).getD rfl
end

def aQw (td ty:TE):TE:=λZ H Q=>td Z H λx H1=>∃ a,x=.ref a/\IsD H1 a/\ty Z H1 λy H2=>∃ o,dQ H2 a y o/\Q (o.getD .non) H2
section
variable {X:Cx}{o e f:Expr}{apos cpos:Pos}{td ty tx:TE}
theorem tN (hu:X.A.units+1<cLine)(ho:PE X o td)(he:PE X e ty)(m:M1 X o "get" apos e cpos):PE X (.Call (.Attribute o "get" apos) [e] [] cpos) (aQw td ty):=by
 intro pins s Z H Q I h;refine wpAny_Call_method m.base m.few m.line xJf xFq xJw (thn (ho pins s Z H _ I h) λu s1 ⟨x,H1,I1,rx,a,ex,d,q1⟩=>?_);subst ex;obtain rfl:u=Value.ref a:=rx;obtain⟨t1,t2,_⟩:=aLx I1 d;refine⟨t1,t2,?_⟩;rw[m.trees];refine xEo rfl (xFy (xDd (thn (he pins s1 Z H1 _ I1 q1) λiv s2 ⟨y,H2,I2,ry,ov,g,q2⟩=>xEw ?_)));exact aMk hu I2 g ry λw' s3 I3 rw'=>⟨_,H2,I3,rw',q2⟩
end

section
variable {X:Cx}{pins:xPn}{Z:St}{H:Hp}{s:Shared}{a:Addr}{kvs:List (Key×V)}{A:Around}{E:xVP}
end


section
variable {X:Cx}{pins:xPn}{Z:St}{H:Hp}{s:Shared}{a:Addr}{y:V}{u:Value}{A:Around}{E:xVP}
end
end L2
namespace Att
open PySem PySem.W PySem.Calls PyProof.Rows

theorem rS {P:Params}{h:Heap}:∀ (ns:List Int) (vs:List Value),WellAll P h vs (ns.map WData.int)->IntsAre vs ns:=by
 intro ns
 induction ns with
 | nil=>
  intro vs w;rw[List.map_nil] at w;cases w;exact .nil
 | cons n ns ih=>
  intro vs w;rw[List.map_cons] at w;cases w with
  | cons a b=>
   cases a;exact .cons _ _ (ih _ b)

theorem aFz {l:OpenLaw}{n:Nat}(hn:l.most=some n){P:Params}{h:Heap}{args:List WData}{vals:List Value}
  (hpre:l.row.toRowW.claim.pre args=true)(hwl:WellAll P h vals args) :
  ∃ a vs ns,vals=[Value.ref a]/\args=[WData.list (ns.map WData.int)]/\h.get? a=some { cls:=.type "list",data:=.seq vs.toArray }/\IntsAre vs ns/\ns.length<=n:=by
 have hsh:WShape.hasAll [] args [.list .int]=true:=(pre_splitW hpre).1;have hc:l.pre.holds [] { args:=args }=true:=(pre_splitW hpre).2;obtain⟨d,r,rfl,h1,h2⟩:=hasAllW_cons hsh;obtain rfl:=hasAllW_nil h2;obtain⟨xs,rfl,h3⟩:=hasW_list h1;obtain⟨ns,rfl⟩:=items_int h3
 have hlen:ns.length<=n:=by
  unfold OpenLaw.pre at hc
  have h4:(WTm.not (.lt (.lit (.int (n:Int))) (.len (.arg 0)))).holds [] { args:=[.list (ns.map .int)] }=true:=by
   have h4:=(holds_andW hc).1;rw[hn] at h4;exact h4
  have h5:=condW_of h4 (w_not (w_lt w_lit (w_len_list (w_arg rfl))));rw[List.length_map] at h5;refine Nat.le_of_not_lt λq=>?_;have q':(n:Int)<((ns.length:Nat):Int):=by omega
  first
   | (rw[decide_eq_true q'] at h5; exact absurd h5 (by decide))
   | (simp at h5; omega)
 cases hwl with
 | cons w1 w2=>
  cases w2;cases w1 with
  | list ho hall=>exact⟨_,_,ns,rfl,rfl,ho,rS ns _ hall,hlen⟩

theorem aGf (l:OpenLaw)(args:List WData):l.row.toRowW.claim.post args (.bool true) args=true:=
 postW_of (r:=l.row.toRowW) (X:=(true==true))
  (show WShape.has [] (.bool true) .bool=true by first | rfl | decide | simp[WShape.has,WShape.arms,WShape.armsAll])
  (show (WTm.eq .res (.lit (.bool true))).value [] { args:=args,res:=some (.bool true),after:=args }=some (.bool (true==true)) from w_eq_bool (w_res rfl) w_lit) rfl


theorem attach_call {l:OpenLaw}{n:Nat}{q:Program}{loose:List Str}{XP:(Str->Option Value)->Heap->Prop}{YP:World->Heap->Prop}{d:DefRec}
  (hn:l.most=some n)(hdf:d.params.defaults=[])
  (call:∀ (w:World) (s₀ s₁:Shared) (mg mb:Str->Option Value) (fa:Addr) (o:Obj) (pm cd doc:Value) (a:Addr) (vs:List Value) (ns:List Int),
   Ground q loose [] XP w s₀ mg mb s₁.heap->YP w s₁.heap ->
   s₁.heap.get? fa=some o->o.data=.func (docDef d.name d.params d.body d.scope pm cd doc)->s₁.heap.CodeRec cd d.name->mg d.name=some (.ref fa) ->
   s₁.heap.get? a=some { cls:=.type "list",data:=.seq vs.toArray }->IntsAre vs ns->ns.length<=n->s₁.gens=#[] ->
   codeAny (model l.prog w) callerA (.call (.ref fa) ⟨[.ref a],[]⟩) (λr s'=>r=.ok (.ret (.bool true))/\OldK s₁.heap s'.heap/\s'.os=s₁.os/\AllBare s'.gens) s₁) :
  WalkO q loose XP YP l.row.toRowW d [] (λf vs=>PySem.call f vs):=by
 intro w s₀ s₁ mg mb G Y fa o pm cd doc dV kV ho hd hcd hD hmg hg args vals as hpre hlay hrd hwl hlo;obtain rfl:dV=.none:=Dflts.none hD hdf;obtain rfl:kV=.none:=Dflts.noKw hD;obtain⟨a,vs,ns,rfl,rfl,hobj,hints,hlen⟩:=aFz hn hpre hwl;refine enter_call (codeAny_mono (call w s₀ s₁ mg mb fa o pm cd doc a vs ns G Y ho (fd_plain hd) hcd hmg hobj hints hlen hg) λr s' hq=>?_);obtain⟨rfl,h2,h3,h4⟩:=hq;exact⟨.inl ⟨.bool true,.bool true,[],rfl,λ_=>rfl,.bool true,aGf l _,λ_=>⟨List.Pairwise.nil,λ_ hm=>(nomatch hm)⟩⟩,h2,h3,h4⟩


section
variable {prog:Program}{w:World}{A:Around}{E:xVP}{s:Shared}{K:Frag}






end
end Att
namespace L2
open PySem PySem.Spec PyProof.Rows PySem.W

theorem vC:∀ {vs:List Value}{ns:List Int},IntsAre vs ns->bZ (ns.map V.int) vs
 | _,_,.nil=>.nil
 | _,_,.cons n t h=>.cons ⟨t,rfl⟩ (vC h)





def aE (s:Stmt)(j:Nat):Stmt:=match s with
 | .ClassDef _ _ _ body _ _ _ _ _ _ _=>body.getD j (.Pass ⟨0,0,0,0⟩)
 | _=>.Pass ⟨0,0,0,0⟩
def aJ (s:Stmt):Arguments:=match s with
 | .FunctionDef _ a _ _ _ _ _ _ _ _=>a
 | _=>{ posonlyargs:=[],args:=[],vararg:=none,kwonlyargs:=[],kw_defaults:=[],kwarg:=none,defaults:=[] }
def aI (s:Stmt):List Stmt:=match s with
 | .FunctionDef _ _ b _ _ _ _ _ _ _=>b
 | _=>[]
def aB (s:Stmt):Scope:=match s with
 | .FunctionDef _ _ _ _ _ _ sc _ _ _=>sc
 | _=>{ kind:=.function,names:=[],isGenerator:=false,isCoroutine:=false }

abbrev CX0:CXT:=λ_ _ _ _ _ _=>False
abbrev E0:XK:=λ_ _ _=>False
theorem cA {X:Cx}:gF CX0 X E0:=λ_ _ _ _ _ _ _ h=>h.elim

structure Fun (K:xAd)(x qual:Str)(st:Stmt)(f:Addr)(fd:FuncData):Prop where
 ex:∃ (oc:Value) (od:Option Addr) (kV doc pm:Value) (an:Option Addr) (cdv ct:Value) (osl:xAO),
  fd=fnOf x qual (aJ st) (aI st) (aB st) .none kV doc pm an cdv ct/\K.lookup f=some ⟨oc,od,.func fd,osl⟩/\codeIn K cdv qual=true
 kp:keepIn K (.ref f)=true
section
variable {P:Program}{w:World}{K:xAd}{mg:xSO}{base:Heap}
theorem Fun.ok {x qual:Str}{st:Stmt}{f:Addr}{fd:FuncData}{N ps:List Str}{k:Nat}{sp:Sp}(F:Fun K x qual st f fd)(S:aQ N ps (aB st))(len:∀ vs H Q E,sp vs H Q E->vs.length=ps.length)
  (hbody:∀ (cdv:Value) (A:Around) (outer:List Env) (s:Shared) (H:Hp) (vs:List V) (Q:VK) (E:XK),cL k (A.deeper (envOfC qual (aB st) s.heap.objs.size f cdv))->sp vs H Q E ->
   ∃ t,PSs (iC CX0 P w K mg base N qual (aB st) f cdv A outer s H E).nox (aI st) t/\t { nx:=λ_ H'=>Q .non H',rt:=Q } (start N vs) H):aY P w K mg base CX0 (k+1) f fd ps sp:=by
 obtain⟨oc,od,kV,doc,pm,an,cdv,ct,osl,rfl,lk,hcd⟩:=F.ex;refine aAl lk hcd S len λA outer s H vs Q E hr hsp=>?_;obtain⟨t,h,q⟩:=hbody cdv A outer s H vs Q E hr hsp;exact⟨t,h.nox,q⟩
theorem Fun.binds {x qual:Str}{st:Stmt}{f:Addr}{fd:FuncData}{ps:List Str}(F:Fun K x qual st f fd)
  (h:∀ (kV doc pm:Value) (an:Option Addr) (cdv ct:Value) (us:List Value),us.length=ps.length->bindArgs (fnOf x qual (aJ st) (aI st) (aB st) .none kV doc pm an cdv ct) ⟨us,[]⟩=pure (ps.zip us)):aW K fd ps []:=by
 obtain⟨oc,od,kV,doc,pm,an,cdv,ct,osl,rfl,lk,hcd⟩:=F.ex;exact .all (h kV doc pm an cdv ct)
theorem fun_mk {x qual:Str}{st:Stmt}{f:Addr}{oc:Value}{od an:Option Addr}{osl:xAO}{kV doc pm cdv ct:Value}(l:K.lookup f=some ⟨oc,od,.func (fnOf x qual (aJ st) (aI st) (aB st) .none kV doc pm an cdv ct),osl⟩)
  (c:codeIn K cdv qual=true)(k:keepIn K (.ref f)=true):Fun K x qual st f (fnOf x qual (aJ st) (aI st) (aB st) .none kV doc pm an cdv ct):=⟨⟨oc,od,kV,doc,pm,an,cdv,ct,osl,rfl,l,c⟩,k⟩
end
theorem iI {A:Around}{k:Nat}(hr:cL k A):A.units+1<cLine:=xBt (Nat.add_le_add_left (by decide:1<=64) _) hr.units
theorem aR {n:Nat}(h:n<=1000):n<sizeLine:=xBt h (by decide)

section
variable {X:Cx}
theorem pv (i:Nat){x:Str}{pos:Pos}(hN:X.N[i]?=some x:=by rfl)(hv:Vis X.env.scope x:=by first | exact xAx rfl | exact xHg (xAx rfl) | exact xHg (xHg rfl))(hd:(x==("__debug__" : Str))=false:=by decide)
  (hcd:(x==("__classdict__" : Str))=false:=by decide):PE X (.Name x pos) (yK i):=qG hN hv hd hcd
end

theorem gP {A B:Prop}(h:B):if false=true then A else B:=by
 rw[xAy xAs];exact h
theorem jR {A B:Prop}(h:A):if true=true then A else B:=by
 rw[xBe rfl];exact h
theorem fU {c A B:Prop} [Decidable c] (h1:c->A)(h2:¬ c->B):if c then A else B:=by
 by_cases h:c
 ·rw[xBe h];exact h1 h
 ·rw[xAy h];exact h2 h

def aO (H H':Hp):Prop:=∀ b o,H b=some o->H' b=some o
theorem aO.refl (H:Hp):aO H H:=λ_ _ h=>h
theorem aO.trans {H H1 H2:Hp}(a:aO H H1)(b:aO H1 H2):aO H H2:=λc o h=>b c o (a c o h)
theorem aO.free {H H':Hp}(e:aO H H'){l:Addr}(h:H' l=Option.none):H l=Option.none:=by
 cases q:H l with
 | none=>rfl
 | some o=>
  rw[e l o q] at h;cases h
theorem aO.seq {K:xAd}{H H':Hp}{a:Addr}{xs:List V}(e:aO H H')(h:SqL K H a xs):SqL K H' a xs:=by
 rcases h with (h | ⟨o,h⟩) | h
 ·exact .inl (.inl (e _ _ h))
 ·exact .inl (.inr ⟨o,e _ _ h⟩)
 ·exact .inr h

section
variable {X:Cx}
inductive aXt (xs:List V)(H:Hp)(Q:VK):Prop
 | mk (a:_)(kvs:_)(h0_:xs=[V.ref a])(h1_:H a=some (.dK kvs))(h2_:Q (.int kvs.length) H)
theorem aHw:CallR X (.builtin "len") aXt:=by
 intro pins s Z H xs us Q I r h;obtain⟨a,kvs,rfl,ha,q⟩:=h;obtain⟨u,rfl,ru⟩:=iG r;cases ru;exact aUt I (.inl ha) λt s' I'=>⟨.int kvs.length,H,I',⟨t,rfl⟩,q⟩
end
section
variable {κ:Type} [DecidableEq κ]
end

def aEf (c:Nat):V:=.str ⟨#[c]⟩
def Its (x:Str):It:=⟨λi _=>i<x.cps.size,λi H v H'=>H'=H/\∃ c,x.cps[i]?=some c/\v=aEf c,λi _=>x.cps.size<=i⟩
theorem yI {P:Program}{w:World}{K:xAd}{tg:Expr}(n:String)(it:Addr)(x:Str)(t:Tok)
  (hn:n="str_ascii_iterator" \/ n="str_iterator"):aAy P w K tg (Its x) [it] it (λi h=>h.IsStrIter it n x t i) where
 mem:=by simp
 obj:=λi h st b hb=>by
  have e:b=it:=by simpa using hb
  subst e;obtain⟨o,e,c,d⟩:=st;exact⟨o,e,λv z=>by rw[d] at z; cases z⟩
 keep:=λi h h' st k=>by
  obtain⟨o,e,c,d⟩:=st;exact⟨o,k it (by simp) o e,c,d⟩
 item:=by
  intro X hP hw hK hc i pins s Z H E I hf st hg;subst hP hw hK;obtain⟨f0,f1,f2,f3,f4,f5⟩:=hf it (by simp);have hg':i<x.cps.size:=hg;have hx:x.cps[i]?=some x.cps[i]:=by simp[hg']
  have fin:∀ h',h'.IsStrIter it n x t (i+1)->Heap.SameBut it s.heap h'->∃ u,some (Value.str ⟨#[x.cps[i]]⟩ s.toks)=some u /\
   wpAny (model X.prog X.w) X.A (letOwnedTupleGo tg (.ref it) u) (λ_ s2=>∃ x_1 H',Inv X pins Z H' s2/\cJ x_1 u/\(Its x).yld i H x_1 H'/\s2.heap.IsStrIter it n x t (i+1)/\∀ b∈[it],H' b=none) E { s with heap:=h',toks:=s.toks+1 }:=λh' st' sb=>by
   have I1:Inv X pins Z H { s with heap:=h',toks:=s.toks+1 }:=I.turned (λb o hb e=>(sb.2 b hb).trans e) f0 f1 f3 f4 f5;obtain⟨o,e,c,d⟩:=id st';refine⟨_,rfl,aFb (s:={ s with heap:=h',toks:=s.toks+1 }) e c d (by rcases hn with rfl | rfl <;> decide) ⟨aEf x.cps[i],H,I1,⟨_,rfl⟩,⟨rfl,_,hx,rfl⟩,st',λb hb=>(hf b hb).1⟩⟩
  rcases hn with rfl | rfl
  ·exact wpAny_pyNext_ascii_item st hx fin
  ·exact wpAny_pyNext_wide_item st hx fin
 done:=by
  intro X hP hw hK hc i pins s Z H E I hf st hg;subst hP hw hK;obtain⟨f0,f1,f2,f3,f4,f5⟩:=hf it (by simp);have hg':x.cps.size<=i:=hg;have hx:x.cps[i]?=none:=by simp[hg']
  rcases hn with rfl | rfl
  ·exact wpAny_pyNext_ascii_end (I.ok.hd hc) st hx λh' eb=>⟨rfl,I.turned (t':=s.toks) (λb o hb e=>eb b o hb e) f0 f1 f3 f4 f5⟩
  ·exact wpAny_pyNext_wide_end (I.ok.hd hc) st hx λh' eb=>⟨rfl,I.turned (t':=s.toks) (λb o hb e=>eb b o hb e) f0 f1 f3 f4 f5⟩
 self:=λ_ _ _ _ _ st h=>by
  rcases hn with rfl | rfl
  ·exact wpAny_pyIter_striter_ascii st h
  ·exact wpAny_pyIter_striter_wide st h
section
variable {X:Cx}{tg:Expr}
def aXj (tl:TE):TI:=λZ H R=>tl Z H λv H1=>∃ x,v=.str x/\R (Its x) H1
theorem aRj {l:Expr}{tl:TE}(hl:PE X l tl):PI X tg l (aXj tl):=by
 intro pins s Z H R I h;refine thn (hl pins s Z H _ I h) λv s1 ⟨x,H1,I1,r1,q1⟩=>?_;obtain⟨z,e,q⟩:=q1;subst e;obtain⟨t,rfl⟩:=r1
 have fp:∀ b∈[s1.heap.objs.size],mU X pins H1 b:=λb hb=>by
  have e:b=s1.heap.objs.size:=by simpa using hb
  subst e;exact I1.fpOk (xAi _) (I1.hok.fresh (xAi _))
 cases ha:z.cps.all (·<128)
 ·exact wpAny_pyIter_wide ha ⟨s1.heap.objs.size,[s1.heap.objs.size],_,_,H1,rfl,I1.kept (t':=s1.toks) λb o e=>xAf _ e,yI "str_iterator" _ z t (.inr rfl),⟨_,xAk _ rfl,rfl,rfl⟩,fp,q⟩
 ·exact wpAny_pyIter_ascii ha ⟨s1.heap.objs.size,[s1.heap.objs.size],_,_,H1,rfl,I1.kept (t':=s1.toks) λb o e=>xAf _ e,yI "str_ascii_iterator" _ z t (.inl rfl),⟨_,xAk _ rfl,rfl,rfl⟩,fp,q⟩
end

theorem aHt {prog:Program}{w:World}{A:Around}{R:Result->Shared->Prop}{s:Shared}{elt target iter:Expr}{ifs:List Expr}{scope:Scope}{pos:Pos}{it acc:Value}{env:Env}(I:Nat->Shared->Prop)
  (turn:∀ n s,I n s->wpAny (model prog w) A (pyNext it) (λr s₁=>match r with
   | none=>R (.ok .next) s₁
   | some v=>wpAny (model prog w) A (letOwnedTupleGo target it v) (λ_ s₁'=>wpAny (model prog w) A (assign target env v) (λ_ s₂=>
     wpAny (model prog w) A (forIn ifs true λc r=>if r=true then do let ok <- isTrue c env (eval c env); pure (ForInStep.yield ok) else pure (ForInStep.yield r)) (λok s₃=>
      if ok=true then wpAny (model prog w) A (eval elt env) (λx s₄=>
       wpAny (model prog w) A (call (.builtin "list.append") [acc,x]) (λ_ s₅=>∃ m,m<n/\I m s₅) (λ_ _=>False) s₄) (λ_ _=>False) s₃
      else ∃ m,m<n/\I m s₃) (λ_ _=>False) s₂) (λ_ _=>False) s₁') (λ_ _=>False) s₁) (λ_ _=>False) s)
  (n:Nat)(h:I n s) :
  codeAny (model prog w) A (.compLoop (.ListComp elt [⟨target,iter,ifs,0⟩] scope pos) 0 it acc env) R s:=by
 refine codeAny_loop rfl I (λn s hI=>?_) n h;show wpAny _ A ((compTurn (.ListComp elt [⟨target,iter,ifs,0⟩] scope pos) 0 it acc env).onRaise (λx=>do noteFrame x env; theTreesLotGoes x)) _ _ s;refine wpAny_noted ?_;rw[compTurn_list];refine xAb (wpAny_standAt (xAb (xCr (turn n s hI) (λr s₁ h₁=>?_) λ_ _ h'=>h'.elim)));cases r with
 | none=>exact xAe h₁
 | some v=>
  refine xAb (xCr h₁ (λ_ s₁' h₁'=>?_) λ_ _ h'=>h'.elim);refine xAb (xCr h₁' (λ_ s₂ h₂=>xAb (xCr h₂ (λok s₃ h₃=>?_) λ_ _ h'=>h'.elim)) λ_ _ h'=>h'.elim);cases ok with
  | false=>exact xAe ⟨rfl,h₃⟩
  | true=>
   exact xAb (xAb (xCr h₃ (λx s₄ h₄=>xAb (xCr h₄ (λ_ s₅ h₅=>xAe (xAe ⟨rfl,h₅⟩)) λ_ _ h'=>h'.elim)) λ_ _ h'=>h'.elim))

def cV (scope:Scope):List Str:=(scope.names.filter λx=>x.2==.free).map (·.1)
def dE (scope:Scope)(env:Env):List (Str×Addr):=(cV scope).foldl (λcs n=>(n,(env.cells.lookup n).getD 0)::cs) []
theorem iD {scope:Scope}{env:Env}(h:∀ n∈cV scope,∃ c,env.cells.lookup n=some c):closureFor scope env=pure (dE scope env):=by
 have go:∀ (names:List (Str×NameKind)) (cs:List (Str×Addr)),(∀ n,(n,NameKind.free)∈names->∃ c,env.cells.lookup n=some c) ->
   (forIn names cs λ(x:Str×NameKind) r=>(do
    let (name,kind):=x
    if kind==.free then
     let a <- cellOf env name
     pure (ForInStep.yield ((name,a)::r))
    else pure (ForInStep.yield r):Sem (ForInStep (List (Str×Addr)))))=pure (((names.filter λx=>x.2==.free).map (·.1)).foldl (λcs n=>(n,(env.cells.lookup n).getD 0)::cs) cs):=by
  intro names
  induction names with
  | nil=>intro cs _; rfl
  | cons x r ih=>
   intro cs hx;obtain⟨n,k⟩:=x;rw[xGh]
   by_cases hk:k=.free
   ·subst hk;obtain⟨c,hc⟩:=hx n (by simp);have e:cellOf env n=pure c:=by unfold cellOf; rw[hc]
    simp only[beq_self_eq_true,if_true,e,pure_bind,List.filter_cons,List.map_cons,List.foldl_cons];rw[ih _ λm hm=>hx m (xBi _ hm),hc];rfl
   ·have hb:(k==NameKind.free)=false:=by simpa using hk
    simp only[hb,Bool.false_eq_true,if_false,pure_bind,List.filter_cons];exact ih _ λm hm=>hx m (xBi _ hm)
 unfold closureFor;have g:=go scope.names [] λn hn=>h n (by unfold cV; exact xBc.mpr ⟨(n,.free),xCc.mpr ⟨hn,by simp⟩,rfl⟩);refine (bind_congr (λ_=>rfl)).trans ?_;exact (congrArg (·>>=λr=>pure r) g).trans (by simp only[pure_bind]; rfl)

theorem iJ {env:Env}:∀ (ns:List Str) (cs:List (Str×Addr)),(∀ n∈ns,∃ c,env.cells.lookup n=some c)->(∀ x c,cs.lookup x=some c->env.cells.lookup x=some c) ->
  ∀ x c,(ns.foldl (λcs n=>(n,(env.cells.lookup n).getD 0)::cs) cs).lookup x=some c->env.cells.lookup x=some c
 | [],cs,_,h=>h
 | n::r,cs,hn,h=>by
  refine iJ r _ (λm hm=>hn m (xBi _ hm)) λx c e=>?_;rw[xFw] at e;cases q:(x==n) with
  | true=>
   rw[q] at e;have q':x=n:=by simpa using q
   subst q';obtain⟨c',hc⟩:=hn x xBk;rw[hc] at e ⊢;exact e
  | false=>rw[q] at e; exact h x c e
theorem gU {env:Env}:∀ (ns:List Str) (cs:List (Str×Addr)) (x:Str),(x∈ns\/∃ c,cs.lookup x=some c)->∃ c,(ns.foldl (λcs n=>(n,(env.cells.lookup n).getD 0)::cs) cs).lookup x=some c
 | [],cs,x,h=>by
  rcases h with h | h
  ·simp at h
  ·exact h
 | n::r,cs,x,h=>by
  refine gU r _ x ?_;rcases h with h | ⟨c,h⟩
  ·rcases xAo.mp h with rfl | h
   ·exact .inr ⟨(env.cells.lookup x).getD 0,by rw[xFw]; simp⟩
   ·exact .inl h
  ·refine .inr ?_;rw[xFw];cases q:(x==n) with
   | true=>exact⟨_,rfl⟩
   | false=>exact⟨c,h⟩

structure pX (scope:Scope):Prop where
 kind:scope.kind=.function
 cell:∀ y∈scope.names,y.2≠.cell
 loc:∀ y∈scope.names,y.2=.local->scope.names.lookup y.1=some .local
theorem xbs {scope:Scope}(a:scope.kind=.function:=by rfl)(b:∀ y∈scope.names,y.2≠.cell:=by decide +kernel)(c:∀ y∈scope.names,y.2=.local->scope.names.lookup y.1=some .local:=by decide +kernel):pX scope:=⟨a,b,c⟩

theorem jY {env:Env}:∀ {names:List (Str×NameKind)}{x:Str}{k:NameKind},(∀ y∈names,y.2≠.cell) ->
  (names.map λ(n,k)=>if (k==NameKind.free&&env.scope.kind==.function&&env.kindOf n==some .cell) then (n,NameKind.cell) else (n,k)).lookup x=some k->(k=.cell\/k=.free)->(x,NameKind.free)∈names
 | [],_,_,_,h,_=>by simp at h
 | (n,k0)::r,x,k,hc,h,hk=>by
  have ih:=@jY env r x k λy hy=>hc y (xBi _ hy);have hq:List.lookup x ((if (k0==NameKind.free&&env.scope.kind==.function&&env.kindOf n==some .cell)=true then (n,NameKind.cell) else (n,k0))::_)=some k:=h
  have hk0:=hc (n,k0) xBk
  by_cases q:(k0==NameKind.free&&env.scope.kind==.function&&env.kindOf n==some .cell)=true
  ·rw[xBe q,xFw] at hq
   have hf:k0=.free:=by
    rw[xBw,xBw] at q
    simpa using q.1.1
   subst hf;cases hx:x==n with
   | true=>
    have e:x=n:=by simpa using hx
    subst e;exact xBk
   | false=>
    rw[hx] at hq;exact xBi _ (ih hq hk)
  ·rw[xAy q,xFw] at hq;cases hx:x==n with
   | true=>
    rw[hx] at hq;have e:x=n:=by simpa using hx
    subst e;have e2:k0=k:=xBp hq;subst e2;rcases hk with z | z
    ·exact xBg z hk0
    ·rw[z]; exact xBk
   | false=>
    rw[hx] at hq;exact xBi _ (ih hq hk)

def Cx.blk (X:Cx)(scope:Scope)(N':List Str)(C:Addr)(s₃:Shared)(H₃:Hp)(fp:List Addr):Cx:=
 { X with N:=N',s₀:=s₃,H₀:=H₃,env:=compEnvC scope (dE scope X.env) C X.env,outer:=X.stack,stack:=X.stack,ex:=fp,fn:=λ_=>false,pn:=[],xe:=λ_ _=>False }

def cE (nown:Nat)(js:List Nat)(Z:St):St:=List.replicate nown none++js.map λj=>(Z[j]?).join
structure gI (X:Cx)(scope:Scope)(N':List Str)(nown:Nat)(js:List Nat):Prop where
 len:N'.length=nown+js.length
 at':∀ k j,js[k]?=some j->X.N[j]?=N'[nown+k]?
 cel:∀ n∈cV scope,X.env.kindOf n=some .cell\/X.env.kindOf n=some .free
 fre:∀ k x,nown<=k->N'[k]?=some x->x∈cV scope/\(relabel scope X.env).names.lookup x≠some .local

theorem aHz {X:Cx}{pins:xPn}{Z:St}{H:Hp}{s₃:Shared}{h₁:Heap}{tk:Nat}{scope:Scope}{N':List Str}{nown:Nat}{js:List Nat}{fp:List Addr}
  (I:Inv X pins Z H s₃)(S:pX scope)(B:gI X scope N' nown js)(hfp:∀ b∈fp,mU X pins H b)(hlt:∀ b∈fp,b<s₃.heap.objs.size)
  (hn:h₁.Ns s₃.heap.objs.size (λ_=>none))(hk:∀ b o,s₃.heap.get? b=some o->h₁.get? b=some o) :
  Inv (X.blk scope N' s₃.heap.objs.size s₃ H fp) [] (cE nown js Z) H { s₃ with heap:=h₁,toks:=tk }:=by
 have hcl:∀ n∈cV scope,∃ c,X.env.cells.lookup n=some c:=λn hn=>I.ok.has n (B.cel n hn);have cl1:∀ x c,(dE scope X.env).lookup x=some c->X.env.cells.lookup x=some c:=iJ (cV scope) [] hcl λx c e=>by simp at e
 refine⟨⟨I.ok.mod,S.kind,I.ok.glob,I.ok.blt,xAi _,λx y c h1 h2=>I.ok.inj x y c (cl1 x c h1) (cl1 y c h2),λx hx=>?_,λx c h1 _=>?_,I.ok.hd,I.ok.frames,.inl rfl,λb hb=>⟨xAz (hlt b hb),λx c e=>(hfp b hb).2.2.2.2.1 x c (cl1 x c e)⟩,I.bs,xAr I.ok.bsz I.sz,λb o e hb=>?_,λb hb z=>?_,I.stack,I.stkFree⟩,
  rfl,I.bare,Un.kept hk,⟨_,hn,λi x v h1 h2 h3=>?_⟩,λx c e=>?_,I.hok.fresh (xAi _),λx c e=>I.freeC x c (cl1 x c e),λp hp=>?_,I.hok.kept hk,?_⟩
 ·have hx:(relabel scope X.env).names.lookup x=some .cell\/(relabel scope X.env).names.lookup x=some .free:=hx
  have m:(x,NameKind.free)∈scope.names:=by
   rcases hx with hx | hx
   ·exact jY S.cell hx (.inl rfl)
   ·exact jY S.cell hx (.inr rfl)
  exact gU (cV scope) [] x (.inl (xBc.mpr ⟨(x,.free),xCc.mpr ⟨m,by simp⟩,rfl⟩))
 ·exact xBg h1 (by simp[Cx.blk])
 ·have f:=(hfp b hb).2.2.2.1;rcases f with f | f
  ·exact I.ok.noex b o e f
  ·exact xBg (xAq (xAm (I.ok.bs b o e).1) f) (xCm _)
 ·rcases xAo.mp (I.stkSub b z) with e | e
  ·exact (hfp b hb).2.1 e
  ·exact (hfp b hb).2.2.1 e
 ·-- the names' values
  have h1:N'[i]?=some x:=h1
  have hi:nown<=i:=by
   by_cases q:nown<=i
   ·exact q
   ·exfalso;unfold cE at h2;rw[xBf (by rw[xEt]; omega),xJi] at h2;split at h2 <;> cases h2
  unfold cE at h2;rw[xBh (by rw[xEt]; exact hi),xEt,xAg] at h2;cases hj:js[i-nown]? with
  | none=>rw[hj] at h2; cases h2
  | some j=>
   rw[hj] at h2;have h2:some ((Z[j]?).join)=some (some v):=h2
   have e1:Z[j]?=some (some v):=by
    cases q:Z[j]? with
    | none=>rw[q] at h2; cases h2
    | some z=>rw[q] at h2; cases z with
     | none=>cases h2
     | some z=>cases h2; rfl
   have e2:X.N[j]?=some x:=by rw[B.at' _ j hj,show nown+(i-nown)=i by omega]; exact h1
   obtain⟨hfr,hnl⟩:=B.fre i x hi h1;have kx:=B.cel x hfr;obtain⟨m,hm,hl⟩:=I.loc
   obtain⟨u,r,l⟩:=hl j x v e2 e1 (by
    rcases kx with k | k
    ·exact .inr (.inl k)
    ·exact .inr (.inr k))
   refine⟨u,r,.inr ⟨?_,?_⟩⟩
   ·have hv:(relabel scope X.env).names.lookup x=some .local\/(relabel scope X.env).names.lookup x=some .cell\/(relabel scope X.env).names.lookup x=some .free:=h3;exact hv.resolve_left hnl
   ·rcases l with⟨k,_⟩ | ⟨k,c,e,z⟩
    ·rcases kx with k' | k' <;> rw[k] at k' <;> cases k'
    ·obtain⟨c',hc'⟩:=gU (env:=X.env) (cV scope) [] x (.inl hfr);have e3:=cl1 x c' hc';rw[e] at e3;cases e3;obtain⟨o,ho,hd⟩:=z;exact⟨c,hc',o,hk c o ho,hd⟩
 ·obtain⟨v,o,ho,hd⟩:=I.cell x c (cl1 x c e);exact⟨v,o,hk c o ho,hd⟩
 ·exact xBg (show p∈([]:xPn) from hp) (by simp)
 ·unfold cE;show _=N'.length;rw[xAj,xEt,xAa,B.len]

theorem Inv.back {X:Cx}{pins:xPn}{Z Z':St}{H H':Hp}{s₃ s':Shared}{scope:Scope}{N':List Str}{C:Addr}{fp:List Addr}{pl:xPn}
  (I:Inv X pins Z H s₃)(hfp:∀ b∈fp,mU X pins H b)(J:Inv (X.blk scope N' C s₃ H fp) pl Z' H' s'):Inv X pins Z H' s':=
 I.call' J.os J.base J.hok J.bare λb hb=>⟨(hfp b hb).2.2.2.1,(hfp b hb).2.1,(hfp b hb).2.2.2.2.1,(hfp b hb).2.2.2.2.2⟩

def PTs (X:Cx)(ifs:List Expr)(t:TT):Prop:=
 ∀ (pins:xPn) (s:Shared) (Z:St) (H:Hp) (Q:Bool->Hp->Prop),Inv X pins Z H s->t Z H Q ->
  wpAny (model X.prog X.w) X.A (forIn ifs true λc r=>if r=true then do let ok <- isTrue c X.env (eval c X.env); pure (ForInStep.yield ok) else pure (ForInStep.yield r)) (TP X pins Z Q) X.xe s
def aVl:TT:=λ_ H Q=>Q true H
theorem dU {X:Cx}:PTs X [] aVl:=λ_ _ _ H _ I h=>wpAny_tests_nil ⟨H,I,h⟩
theorem jZ {X:Cx}{c:Expr}{t:TT}(h:PT X c t):PTs X [c] t:=λpins s Z H Q I q=>wpAny_tests_one (h pins s Z H Q I q)

def yL (J:It)(D:Addr)(g:TG)(tc:TT)(te:TE)(R:Hp->Prop)(Z:St)(H:Hp):Prop:=
 ∃ W:Nat->Nat->St->Hp->Prop,(∃ m,W 0 m Z H)/\∀ i m Z H,W i m Z H ->
  (J.stop i H/\R H)\/(J.go i H/\∃ N:St->Hp->Prop,(∀ Z' H',N Z' H'->∃ m',m'<m/\W (i+1) m' Z' H')/\∀ x H',J.yld i H x H'->g x Z H' λZ2 H2=>tc Z2 H2 λb H3=>
   if b=true then te Z2 H3 λy H4=>∃ ys,H4 D=some (.lst ys)/\ys.length<sizeLine/\N Z2 (upd H4 D (.lst (ys++[y]))) else N Z2 H3)
def aPx (wi:TI)(nown:Nat)(js:List Nat)(g:TG)(tc:TT)(te:TE):TE:=λZ H Q=>
 wi Z H λJ H1=>∀ D,H1 D=none->yL J D g tc te (λH2=>Q (.ref D) H2) (cE nown js Z) (upd H1 D (.lst []))

structure Blk (X:Cx)(scope:Scope)(N':List Str)(tg elt:Expr)(ifs:List Expr)(g:TG)(tc:TT)(te:TE):Prop where
 tg:∀ C s₃ H₃ fp,PG (X.blk scope N' C s₃ H₃ fp) tg g
 tc:∀ C s₃ H₃ fp,PTs (X.blk scope N' C s₃ H₃ fp) ifs tc
 te:∀ C s₃ H₃ fp,PE (X.blk scope N' C s₃ H₃ fp) elt te

theorem uF {X:Cx}{tg elt iter:Expr}{ifs:List Expr}{scope:Scope}{pos:Pos}{N':List Str}{nown:Nat}{js:List Nat}{g:TG}{tc:TT}{te:TE}{E:xVP}
  (hc:X.calm=true)(S:pX scope)(B:gI X scope N' nown js)(K:Blk X scope N' tg elt ifs g tc te)
  {pins:xPn}{Z:St}{H2:Hp}{s₂:Shared}{it:Addr}{fp:List Addr}{tn:Nat->Heap->Prop}{J:It}{Q:VK}{RR:Value->Addr->Result->Shared->Prop}
  (I2:Inv X pins Z H2 s₂)(T:aAy X.prog X.w X.K tg J fp it tn)(st2:tn 0 s₂.heap)(f2:∀ b∈fp,mU X pins H2 b)
  (h:∀ D,H2 D=none->yL J D g tc te (λH'=>Q (.ref D) H') (cE nown js Z) (upd H2 D (.lst [])))
  (hRR:∀ (D C:Addr) (H':Hp) (s':Shared),Inv X pins Z H' s'->(∃ m,s'.heap.Ns C m)->(∀ h',Heap.SameBut C s'.heap h'->Inv X pins Z H' { s' with heap:=h' })->mU X pins H' C->Q (.ref D) H'->RR (.ref D) C (.ok .next) s') :
  wpAny (model X.prog X.w) X.A (newList []) (λacc s₃=>wpAny (model X.prog X.w) X.A (newFunctionEnv scope X.env.globals (dE scope X.env) [] X.env.qual none .none (some X.env)) (λcenv s₄=>
   codeAny (model X.prog X.w) X.A (.compStart (.ListComp elt [⟨tg,iter,ifs,0⟩] scope pos) 0 (.ref it) acc { cenv with scope:=relabel scope X.env }) (RR acc cenv.locals) s₄) E s₃) E s₂:=by
 have hD:H2 s₂.heap.objs.size=none:=I2.hok.fresh (xAi _);have k3:∀ b o,s₂.heap.get? b=some o->(s₂.heap.push { cls:=.type "list",dict:=none,data:=.seq ([]:List Value).toArray }).get? b=some o:=λb o e=>xAf _ e
 have I3:Inv X pins Z (upd H2 s₂.heap.objs.size (.lst [])) { s₂ with heap:=s₂.heap.push { cls:=.type "list",dict:=none,data:=.seq ([]:List Value).toArray } }:=
  I2.laid (t':=s₂.toks) k3 (xAi _) ⟨xCa _,[],0,.nil,xAk _ rfl⟩
 have lt2:∀ b∈fp,b<s₂.heap.objs.size:=λb hb=>let ⟨o,e,_⟩:=T.obj 0 _ st2 b hb; xAm e;have f3:∀ b∈fp,mU X pins (upd H2 s₂.heap.objs.size (.lst [])) b:=λb hb=>⟨by rw[aG (xAz (lt2 b hb))]; exact (f2 b hb).1,(f2 b hb).2⟩;have st3:=T.keep 0 _ _ st2 λb _ o e=>k3 b o e;obtain⟨W,⟨m0,w0⟩,turn⟩:=h _ hD;refine xBu (xHl S.cell (by intro y hy; simp at hy) (λh₁ hns₁ hsb₁=>?_) S.kind);dsimp only at hns₁ hsb₁ ⊢;generalize hs3:({ s₂ with heap:=s₂.heap.push { cls:=.type "list",dict:=none,data:=.seq ([]:List Value).toArray } }:Shared)=s₃ at I3;have h3:s₂.heap.push { cls:=.type "list",dict:=none,data:=.seq ([]:List Value).toArray }=s₃.heap:=by rw[<- hs3]
 rw[h3] at hns₁ hsb₁ st3 ⊢;have k4:∀ b o,s₃.heap.get? b=some o->h₁.get? b=some o:=λb o e=>hsb₁.extBut b o (xAz (xAm e)) (xAf _ e)
 have hns:h₁.Ns s₃.heap.objs.size (λ_=>none):=by
  obtain⟨o,es,ep,e,d,k,r⟩:=hns₁;exact⟨o,es,ep,e,d,k,λn=>by rw[r n]; rfl⟩
 have lt3:∀ b∈fp,b<s₃.heap.objs.size:=λb hb=>let ⟨o,e,_⟩:=T.obj 0 _ st3 b hb; xAm e;have J0:∀ tk,Inv (X.blk scope N' s₃.heap.objs.size s₃ (upd H2 s₂.heap.objs.size (.lst [])) fp) [] (cE nown js Z) (upd H2 s₂.heap.objs.size (.lst [])) { s₃ with heap:=h₁,toks:=tk }:=λtk=>aHz I3 S B f3 lt3 hns k4
 have loop:∀ s4:Shared,s4={ s₃ with heap:=h₁,toks:=s₂.toks+([]:List (Str×Value)).length } ->
   codeAny (model X.prog X.w) X.A (.compLoop (.ListComp elt [⟨tg,iter,ifs,0⟩] scope pos) 0 (.ref it) (.ref s₂.heap.objs.size) (compEnvC scope (dE scope X.env) s₃.heap.objs.size X.env)) (RR (.ref s₂.heap.objs.size) s₃.heap.objs.size) s4:=by
  rintro s4 rfl
  have Y:∀ b∈fp,mU (X.blk scope N' s₃.heap.objs.size s₃ (upd H2 s₂.heap.objs.size (.lst [])) fp) [] (upd H2 s₂.heap.objs.size (.lst [])) b:=λb hb=>by
   have F:=f3 b hb;refine⟨F.1,xAz (lt3 b hb),λz=>?_,.inl hb,(J0 0).ok.exf b hb |>.2,λp hp=>xBg (show p∈([]:xPn) from hp) (by simp)⟩
   exact (J0 0).ok.exfs b hb z
  have stat:∀ {H':Hp},(∀ b∈fp,H' b=none)->∀ b∈fp,mU (X.blk scope N' s₃.heap.objs.size s₃ (upd H2 s₂.heap.objs.size (.lst [])) fp) [] H' b:=λhn b hb=>⟨hn b hb,(Y b hb).2⟩
  refine aHt (λn s'=>∃ i Z' H',Inv (X.blk scope N' s₃.heap.objs.size s₃ (upd H2 s₂.heap.objs.size (.lst [])) fp) [] Z' H' s'/\tn i s'.heap/\(∀ b∈fp,H' b=none)/\W i n Z' H') ?_ m0
   ⟨0,_,_,J0 _,T.keep 0 _ _ st3 λb _ o e=>k4 b o e,λb hb=>(f3 b hb).1,w0⟩
  rintro n s5 ⟨i,Z5,H5,I5,st5,fr5,w5⟩;rcases turn i n Z5 H5 w5 with⟨stop,qn⟩ | ⟨go,N,hN,step⟩
  ·refine thn (T.done (X.blk scope N' s₃.heap.objs.size s₃ (upd H2 s₂.heap.objs.size (.lst [])) fp) rfl rfl rfl hc i [] s5 Z5 H5 _ I5 (stat fr5) st5 stop) λr s6 ⟨hr,I6⟩=>?_;subst hr;have I6':Inv X pins Z H5 s6:=I3.back f3 I6;have hC:mU X pins H5 s₃.heap.objs.size:=I3.fpOk (xAi _) I6.free;refine hRR _ _ H5 s6 I6' (let ⟨m,hm,_⟩:=I6.loc; ⟨m,hm⟩) (λh' sb=>?_) hC qn;exact I6'.turned (t':=s6.toks) (λb o hb e=>(sb.2 b hb).trans e) hC.1 hC.2.1 hC.2.2.2.1 hC.2.2.2.2.1 hC.2.2.2.2.2
  ·refine thn (T.item (X.blk scope N' s₃.heap.objs.size s₃ (upd H2 s₂.heap.objs.size (.lst [])) fp) rfl rfl rfl hc i [] s5 Z5 H5 _ I5 (stat fr5) st5 go) λr s6 ⟨u,hr,h6⟩=>?_;subst hr;refine thn h6 λ_ s7 ⟨x,H7,I7,r7,y7,st7,fr7⟩=>?_;have I7':=I7.pinned (stat fr7) (T.obj _ _ st7)
   have again:∀ {Z9:St}{H9:Hp}{s9:Shared},Inv (X.blk scope N' s₃.heap.objs.size s₃ (upd H2 s₂.heap.objs.size (.lst [])) fp) ([]++tI fp s7.heap) Z9 H9 s9->N Z9 H9 ->
     ∃ m,m<n/\∃ i Z' H',Inv (X.blk scope N' s₃.heap.objs.size s₃ (upd H2 s₂.heap.objs.size (.lst [])) fp) [] Z' H' s9/\tn i s9.heap/\(∀ b∈fp,H' b=none)/\W i m Z' H':=λ{Z9 H9 s9} I9 n9=>by
    obtain⟨m',hm,w9⟩:=hN Z9 H9 n9;refine⟨m',hm,i+1,Z9,H9,I9.unpinned,T.keep _ _ _ st7 λb hb o e=>(I9.pin (b,o) (xBs _ (xBs _ (kO hb e)))).1,λb hb=>?_,w9⟩;obtain⟨o,e,d⟩:=T.obj _ _ st7 b hb;exact (I9.pin (b,o) (xBs _ (xBs _ (kO hb e)))).2.1
   refine thn (K.tg _ _ _ _ _ s7 Z5 H7 x u _ I7' r7 (step x H7 y7)) λ_ s8 ⟨Z8,H8,I8,q8⟩=>?_;refine thn (K.tc _ _ _ _ _ s8 Z8 H8 _ I8 q8) λok s9 ⟨H9,I9,q9⟩=>?_;cases ok with
   | false=>exact again I9 q9
   | true=>
    rw[xBe rfl] at q9 ⊢;refine thn (K.te _ _ _ _ _ s9 Z8 H9 _ I9 q9) λy s10 ⟨yv,H10,I10,r10,ys,e10,l10,q10⟩=>?_;refine thn (eX _ s10 Z8 H10 (.ref s₂.heap.objs.size) [yv] (.ref s₂.heap.objs.size) [y] (λv H'=>N Z8 H') I10 rfl (.cons r10 .nil) ⟨_,ys,yv,rfl,rfl,e10,l10,q10⟩) λ_ s11 ⟨_,H11,I11,_,q11⟩=>again I11 q11
 have fin:=loop _ rfl;have e4:({ s₂ with heap:=h₁,toks:=s₂.toks+([]:List (Str×Value)).length }:Shared)={ s₃ with heap:=h₁,toks:=s₂.toks+([]:List (Str×Value)).length }:=by rw[<- hs3]
 rw[<- e4] at fin;refine codeAny_compStart_list fin (T.self _ 0 _ _ _ ?_ fin);exact T.keep 0 _ _ st3 λb _ o e=>k4 b o e

section
variable {X:Cx}{tg elt iter:Expr}{ifs:List Expr}{scope:Scope}{pos:Pos}{N':List Str}{nown:Nat}{js:List Nat}{wi:TI}{g:TG}{tc:TT}{te:TE}
theorem dW (hc:X.calm=true)(S:pX scope)(B:gI X scope N' nown js)(K:Blk X scope N' tg elt ifs g tc te)(hi:PI X tg iter wi)
  (hs:∀ x,foldedSetIterable iter X.env x=pure x:=by intro _; rfl):PE X (.ListComp elt [⟨tg,iter,ifs,0⟩] scope pos) (aPx wi nown js g tc te):=by
 intro pins s Z H Q I h;have hcl:closureFor scope X.env=pure (dE scope X.env):=iD λn hn=>I.ok.has n (B.cel n hn);rw[eval_ListComp];refine xIw (use:=none) rfl hs hcl S.kind S.loc (thn (hi pins s Z H _ I h) λxv s₁ h₁=>thn h₁ λitv s₂ h₂=>?_);obtain⟨it,fp,tn,J,H2,e,I2,T,st2,f2,q⟩:=h₂;subst e;refine uF (RR:=λacc C=>compPost (model X.prog X.w) X.A X.xe none (EP X pins Z Q) acc C) hc S B K I2 T st2 f2 q λD C H' s' I' hm k hC qq=>?_;obtain⟨m,hm⟩:=hm;exact⟨m,hm,λh' sb=>⟨.ref D,H',k h' sb,rfl,qq⟩⟩
theorem fZ {i:Nat}{x:Str}{px spos:Pos}(hsw:swapsWith (.ListComp elt [⟨tg,iter,ifs,0⟩] scope pos) (some (.Name x px)) spos.line X.env=pure true)(hN:X.N.Nodup)(hi':X.N[i]?=some x)(hx:X.env.scope.names.lookup x=some .local)
  (hc:X.calm=true)(S:pX scope)(B:gI X scope N' nown js)(K:Blk X scope N' tg elt ifs g tc te)(hi:PI X tg iter wi)
  (hs:∀ x,foldedSetIterable iter X.env x=pure x:=by intro _; rfl):PS X (.Assign [.Name x px] (.ListComp elt [⟨tg,iter,ifs,0⟩] scope pos) spos) (aIu (aPx wi nown js g tc te) (eK i)):=by
 intro pins s Z H D I h;have hcl:closureFor scope X.env=pure (dE scope X.env):=iD λn hn=>I.ok.has n (B.cel n hn);rw[exec_Assign_Name_used _ _ _ _ hsw];refine xAb (wpAny_standAt (xAb ?_));show wpAny _ _ (do let _ <- comprehension (.ListComp elt [⟨tg,iter,ifs,0⟩] scope pos) scope X.env _ (newList []) false (eval iter X.env) (some (assign (.Name x px) X.env))) _ _ s
 refine xAb (xCr (xIw (use:=some (assign (.Name x px) X.env)) (Q:=λ_ s'=>SP X pins D .next s') rfl hs hcl S.kind S.loc (thn (hi pins s Z H _ I h) λxv s₁ h₁=>thn h₁ λitv s₂ h₂=>?_))
  (λ_ s' hq=>xAe (xAe hq)) λ_ _ e=>e)
 obtain⟨it,fp,tn,J,H2,e,I2,T,st2,f2,q⟩:=h₂;subst e;refine uF (RR:=λacc C=>compPost (model X.prog X.w) X.A X.xe (some (assign (.Name x px) X.env)) (λ_ s'=>SP X pins D .next s') acc C) (Q:=λv H'=>D.nx (Z.set i (some v)) H') hc S B K I2 T st2 f2 q λDa C H' s' I' hm k hC qq=>?_;show wpAny _ _ (assign (.Name x px) X.env (.ref Da)) _ _ _;refine wpAny_assign_Name (vK I' hN hi' (.inl hx) (v:=.ref Da) rfl (λs'' I'' ⟨a,sb,ha⟩=>?_) (.inr hx))
 have hCa:C≠a:=by
  rcases ha with rfl | ha
  ·exact hC.2.1
  ·exact λz=>hC.2.2.2.2.1 x a ha z.symm
 obtain⟨m,hm⟩:=hm;refine⟨m,hm.sameBut sb hCa,λh' sb'=>⟨_,H',?_,qq⟩⟩;exact I''.turned (t':=s''.toks) (λb o hb e=>(sb'.2 b hb).trans e) hC.1 hC.2.1 hC.2.2.2.1 hC.2.2.2.2.1 hC.2.2.2.2.2
end

theorem gH {K:xAd}{a D:Addr}{xs:List V}{g:TG}{tc:TT}{te:TE}{R:Hp->Prop}{Z:St}{H:Hp}(Pv:Nat->St->Hp->Prop)(h0:Pv 0 Z H)
  (hl:∀ i Z H,i<=xs.length->Pv i Z H->SqL K H a xs)
  (hs:∀ i x Z H,xs[i]?=some x->Pv i Z H->g x Z H λZ2 H2=>tc Z2 H2 λb H3=>if b=true then te Z2 H3 λy H4=>∃ ys,H4 D=some (.lst ys)/\ys.length<sizeLine/\Pv (i+1) Z2 (upd H4 D (.lst (ys++[y]))) else Pv (i+1) Z2 H3)
  (hd:∀ Z H,Pv xs.length Z H->R H):yL (Itl K a) D g tc te R Z H:=by
 refine⟨λi m Z H=>m=xs.length-i/\i<=xs.length/\Pv i Z H,⟨xs.length,by simp,xCa _,h0⟩,?_⟩;rintro i m Z H ⟨rfl,hi,p⟩;have q:=hl i Z H hi p
 by_cases hlt:i<xs.length
 ·refine .inr ⟨⟨xs,xs[i],q,by simp[hlt]⟩,Pv (i+1),λZ' H' p'=>⟨xs.length-(i+1),by omega,rfl,hlt,p'⟩,λx H' y=>?_⟩;obtain⟨e,y⟩:=y;subst e;exact hs i x Z _ (y xs q) p
 ·have e:i=xs.length:=by omega
  subst e;exact .inl ⟨⟨xs,q,xAi _⟩,hd Z H p⟩
theorem iP {lo:Int}{n:Nat}{D:Addr}{g:TG}{tc:TT}{te:TE}{R:Hp->Prop}{Z:St}{H:Hp}(Pv:Nat->St->Hp->Prop)(h0:Pv 0 Z H)
  (hs:∀ i Z H,i<n->Pv i Z H->g (.int (lo+i)) Z H λZ2 H2=>tc Z2 H2 λb H3=>if b=true then te Z2 H3 λy H4=>∃ ys,H4 D=some (.lst ys)/\ys.length<sizeLine/\Pv (i+1) Z2 (upd H4 D (.lst (ys++[y]))) else Pv (i+1) Z2 H3)
  (hd:∀ Z H,Pv n Z H->R H):yL (Itr lo n) D g tc te R Z H:=by
 refine⟨λi m Z H=>m=n-i/\i<=n/\Pv i Z H,⟨n,by simp,xCa _,h0⟩,?_⟩;rintro i m Z H ⟨rfl,hi,p⟩
 by_cases hlt:i<n
 ·refine .inr ⟨hlt,Pv (i+1),λZ' H' p'=>⟨n-(i+1),by omega,rfl,hlt,p'⟩,λx H' y=>?_⟩;obtain⟨e,y⟩:=y;subst e y;exact hs i Z _ hlt p
 ·have e:i=n:=by omega
  subst e;exact .inl ⟨xAi _,hd Z H p⟩
theorem aPl {x:Str}{D:Addr}{g:TG}{tc:TT}{te:TE}{R:Hp->Prop}{Z:St}{H:Hp}(Pv:Nat->St->Hp->Prop)(h0:Pv 0 Z H)
  (hs:∀ i c Z H,x.cps[i]?=some c->Pv i Z H->g (aEf c) Z H λZ2 H2=>tc Z2 H2 λb H3=>if b=true then te Z2 H3 λy H4=>∃ ys,H4 D=some (.lst ys)/\ys.length<sizeLine/\Pv (i+1) Z2 (upd H4 D (.lst (ys++[y]))) else Pv (i+1) Z2 H3)
  (hd:∀ Z H,Pv x.cps.size Z H->R H):yL (Its x) D g tc te R Z H:=by
 refine⟨λi m Z H=>m=x.cps.size-i/\i<=x.cps.size/\Pv i Z H,⟨x.cps.size,by simp,xCa _,h0⟩,?_⟩;rintro i m Z H ⟨rfl,hi,p⟩
 by_cases hlt:i<x.cps.size
 ·refine .inr ⟨hlt,Pv (i+1),λZ' H' p'=>⟨x.cps.size-(i+1),by omega,rfl,hlt,p'⟩,λv H' y=>?_⟩;obtain⟨e,c,hc,rfl⟩:=y;subst e;exact hs i c Z _ hc p
 ·have e:i=x.cps.size:=by omega
  subst e;exact .inl ⟨xAi _,hd Z H p⟩

section
variable {X:Cx}{e:Expr}{te:TE}{lo hi:Option Expr}{tl th:TO}{pos p2:Pos}
end

section
variable {X:Cx}
theorem aDt:∀ {bs:List Bool}{us:List Value},bZ (bs.map V.bl) us->∀ (i:Nat) (v:Value),us[i]?=some v->∃ b,bs[i]?=some b/\v=.bool b
 | [],_,.nil,_,_,e=>by simp at e
 | b::bs,_,.cons r rr,0,v,e=>by
  cases r;simp at e;exact⟨b,rfl,e.symm⟩
 | b::bs,_,.cons r rr,i+1,v,e=>by
  obtain⟨c,h1,h2⟩:=aDt (bs:=bs) rr i v (by simpa using e);exact⟨c,by simpa using h1,h2⟩
inductive aVk (K:xAd)(xs:List V)(H:Hp)(Q:VK):Prop
 | mk (a:Addr)(bs:List Bool)(h0_:xs=[.ref a])(h1_:SqL K H a (bs.map V.bl))(h2_:Q (.bl (bs.all id)) H)
theorem qY (hc:X.calm=true):CallR X (.builtin "all") (aVk X.K):=by
 intro pins s Z H xs us Q I r h;obtain⟨a,bs,rfl,hs,q⟩:=h;obtain⟨u,rfl,rx⟩:=iG r;cases rx;obtain⟨its,rv,pl,hz⟩:=I.list hs;have hl:=pl.isList;have hlt:a<s.heap.objs.size:=by obtain⟨_,e,_⟩:=hl; exact xAm e
 have hlen:its.length=bs.length:=by rw[<- rv.length,xAa]
 refine call_all_walk (xEu hl ⟨s.heap.objs.size,[s.heap.objs.size,a],[s.heap.objs.size],its.toArray.size,_,_,λi=>(bs[i]?).getD true,rfl,
  Walks.list (A:=X.A.in1) (I.ok.hd hc) _ a (xAz hlt) its.toArray,⟨⟨_,xAk _ rfl,rfl,rfl⟩,hl.push _⟩,λi v s' Q' E' hP hQ=>?_,λh' tk hk=>?_⟩)
 ·obtain⟨b,eb,rfl⟩:=aDt rv i v (by simpa using hP);simp only[eb,Option.getD_some] at hQ;exact xEd hQ
 ·have ea:((List.range its.toArray.size).all λi=>(bs[i]?).getD true)=bs.all id:=by
   rw[xAw,hlen];exact LSm.range_all bs
  rw[ea];exact⟨.bl (bs.all id),H,I.kept (LSm.kept_iter hk),rfl,q⟩
inductive aUz (K:xAd)(xs:List V)(H:Hp)(Q:VK):Prop
 | mk (x:_)(c:_)(cv:_)(t:_)(b:_)(h0_:xs=[x,c])(h1_:(∀ u,cJ c u->u=cv))(h2_:oF K H x t)(h3_:kitOne K t cv=some b)(h4_:Q (.bl b) H)
theorem aMm:CallR X (.builtin "isinstance") (aUz X.K):=by
 intro pins s Z H xs us Q I r h;obtain⟨x,c,cv,t,b,rfl,hc,ty,e,q⟩:=h;obtain⟨u,w',rfl,rx,rc⟩:=yE r;have ec:=hc w' rc;subst ec;exact aHj I rx ty e λtk=>⟨.bl b,H,I.tok tk,rfl,q⟩
theorem aBz {T:String}:∀ u,cJ (.ty T) u->u=.type T:=λ_ r=>r
theorem aNu {a:Addr}:∀ u,cJ (.ref a) u->u=.ref a:=λ_ r=>r
end

def aVw (P:St->Hp->Prop)(t u:TS):TS:=λD Z H=>t { D with nx:=P } Z H/\∀ Z' H',P Z' H'->u D Z' H'
theorem dZ {X:Cx}{st:Stmt}{rest:List Stmt}{t u:TS}(P:St->Hp->Prop)(h1:PS X st t)(h2:PSs X rest u):PSs X (st::rest) (aVw P t u):=by
 intro pins s Z H D I h;obtain⟨ht,hu⟩:=h;refine xId (thn (h1 pins s Z H { D with nx:=P } I ht) λf s1 q=>?_);cases f with
 | next=>
  obtain⟨Z',H',I',q⟩:=q;exact h2 pins s1 Z' H' D I' (hu Z' H' q)
 | ret v=>exact q
 | brk=>exact q
 | cont=>exact q
namespace Bo
theorem isinstance:bootBuiltins "isinstance" = some (.builtin "isinstance"):=by decide +kernel
theorem str:bootBuiltins "str" = some (.type "str"):=by decide +kernel
theorem int:bootBuiltins "int" = some (.type "int"):=by decide +kernel
theorem list:bootBuiltins "list" = some (.type "list"):=by decide +kernel
theorem tuple:bootBuiltins "tuple" = some (.type "tuple"):=by decide +kernel
theorem set:bootBuiltins "set" = some (.type "set"):=by decide +kernel
theorem all:bootBuiltins "all" = some (.builtin "all"):=by decide +kernel
theorem len:bootBuiltins "len" = some (.builtin "len"):=by decide +kernel
theorem sum:bootBuiltins "sum" = some (.builtin "sum"):=by decide +kernel
theorem sorted:bootBuiltins "sorted" = some (.builtin "sorted"):=by decide +kernel
theorem enumerate:bootBuiltins "enumerate" = some (.type "enumerate"):=by decide +kernel
end Bo
def zD (scope sc:Scope):List (Str×NameKind):=scope.names.map λ(n,k)=>if (k==.free&&sc.kind==.function&&sc.names.lookup n==some .cell) then (n,.cell) else (n,k)
def aQm (sc scope:Scope)(N N':List Str)(nown:Nat)(js:List Nat):Bool:=
 decide (N'.length=nown+js.length)&&(List.range js.length).all (λk=>decide (N[js.getD k 0]?=N'[nown+k]?))
  && (cV scope).all (λn=>decide (sc.names.lookup n=some .cell)||decide (sc.names.lookup n=some .free))
  && (List.range js.length).all (λk=>match N'[nown+k]? with | some x=>decide (x∈cV scope)&&decide ((zD scope sc).lookup x≠some .local) | none=>false)
theorem cF {X:Cx}{scope:Scope}{N':List Str}{nown:Nat}{js:List Nat}(sc:Scope)(N:List Str)(hsc:X.env.scope=sc)(hN:X.N=N)(h:aQm sc scope N N' nown js=true):gI X scope N' nown js:=by
 subst hsc hN;unfold aQm at h;rw[Bool.and_eq_true,Bool.and_eq_true,Bool.and_eq_true] at h;obtain⟨⟨⟨h1,h2⟩,h3⟩,h4⟩:=h;have h1:=of_decide_eq_true h1;refine⟨h1,λk j e=>?_,λn hn=>?_,λk x hk e=>?_⟩
 ·have hk:k<js.length:=(List.getElem?_eq_some_iff.mp e).1;have q:=of_decide_eq_true (List.all_eq_true.mp h2 k (List.mem_range.mpr hk));have ej:js.getD k 0=j:=by rw[List.getD_eq_getElem?_getD,e]; rfl
  rw[ej] at q;exact q
 ·have q:=List.all_eq_true.mp h3 n hn;rw[Bool.or_eq_true] at q;exact q.imp (λz=>of_decide_eq_true z) λz=>of_decide_eq_true z
 ·have hl:k<N'.length:=(List.getElem?_eq_some_iff.mp e).1;have q:=List.all_eq_true.mp h4 (k-nown) (List.mem_range.mpr (by omega));have ek:nown+(k-nown)=k:=by omega
  rw[ek,e] at q;have q':(decide (x∈cV scope)&&decide ((zD scope X.env.scope).lookup x≠some .local))=true:=q;rw[Bool.and_eq_true] at q';exact⟨of_decide_eq_true q'.1,of_decide_eq_true q'.2⟩

def oA:Expr->Bool
 | .Starred ..=>true
 | _=>false
theorem bY {e:Expr}{es:List Expr}{env:Env}(h:oA e=false):starEach (e::es) env=(false,eval e env)::starEach es env:=by
 cases e <;> first | rfl | cases h
theorem pac {X:Cx}{e:Expr}{es:List Expr}{te:TE}{t:TA}(ha:PE X e te)(hr:PA X es t)(hs:oA e=false:=by rfl):PA X (e::es) (vI te t):=jD ha hr (bY hs)

end L2
namespace L2
open PySem PySem.W
section
variable {X:Cx}{D:rV}{s1 s2 s3 s4 s5:Stmt}{rest:List Stmt}{t1 t2 t3 t4 t5:TS}{J:St->Hp->Prop}
end
end L2
namespace L2
open PySem PySem.Spec PyProof.Rows PySem.W

inductive CXE (P:Program)(w:World)(outer:List Env)(H:Hp)(s:Shared)(E:XK)(ev:Value)(s':Shared):Prop
 | mk (e t:Addr)(cls:Value)(vs:List Value)(H':Hp)(B:Heap)(h1:ev=.ref e)(h2:s'.os=s.os)(h3:AllBare s'.gens)(h4:Un (frs outer) [] H H' s.heap s'.heap)(h5:HOk P w H' s'.heap)
  (h6:Heap.FlyingW B outer e cls (.ref t) s'.heap)(h7:s'.heap.TupAt t vs)(h8:B.get? t=none)
  (h9:∀ b o,s.heap.get? b=some o->H b=none->b∉frs outer->B.get? b=some o)(h10:∀ b u,H' b=some u->∃ o,B.get? b=some o)
  (h11:∀ b o,s.heap.get? b=some o->b∉frs outer->∃ o',B.get? b=some o')(h12:E cls none H')
theorem HOk.inB {P:Program}{w:World}{H:Hp}{h h' B:Heap}(x:HOk P w H h)(k:B.StaysIn h)(k':B.StaysIn h')(t:∀ b u,H b=some u->∃ o,B.get? b=some o):HOk P w H h':=λa o e=>by
 refine (x a o e).stay (λb u hb q=>?_) (λ_ q=>q) λ_ _ q=>q
 have hs:∃ v,H b=some v:=by
  rcases hb with rfl | hb
  ·exact⟨o,e⟩
  ·exact⟨_,hb⟩
 obtain⟨v,hv⟩:=hs;obtain⟨o',ho⟩:=t b v hv
 have:=k b o' ho
 rw[q] at this;cases this;exact k' b u ho
structure Cx.Body (X:Cx)(E:XK):Prop where
 xe:X.xe=λev s'=>wpAny (model X.prog X.w) X.A (leaving X.env ev) (λ_ s''=>CXE X.prog X.w X.outer X.H₀ X.s₀ E ev s'') (λev' s''=>CXE X.prog X.w X.outer X.H₀ X.s₀ E ev' s'') s'
 stk:X.stack=X.env::X.outer
 frm:X.env.frame=some X.env.locals
 ex:X.ex=[]
theorem sD {P:Program}{w:World}{K:xAd}{mg:xSO}{base:Heap}{N:List Str}{qual:Str}{scope:Scope}{f:Addr}{cd:Value}{A:Around}{outer:List Env}{s:Shared}{H:Hp}{E:XK} :
  (iC (CXE P w) P w K mg base N qual scope f cd A outer s H E).Body E:=⟨rfl,rfl,rfl,rfl⟩
section
variable {X:Cx}{E:XK}
theorem Cx.Body.stkFrs (D:X.Body E):frs X.stack=X.env.locals::X.fs:=by
 rw[D.stk];show List.filterMap _ (X.env::X.outer)=_;rw[xGi,D.frm];rfl
theorem Cx.Body.passes (D:X.Body E){E':XK}(hE:∀ c d H',E' c d H'->E c d H'):gF (CXE X.prog X.w) X E':=by
 intro pins Z H s ev s' I h;obtain⟨e,t,cls,vs,H',B,rfl,h2,h3,h4,h5,h6,h7,h8,h9,h10,h12,h11⟩:=h;have J:Inv X pins Z H' s':=I.call' (ch:=[]) h2 h4 h5 h3 λ_ z=>nomatch z;rw[D.xe];show wpAny (model X.prog X.w) X.A (leaving X.env (.ref e)) _ _ s';have hfr:X.A.frames=some (X.env::X.outer):=by rw[I.ok.frames,D.stk]
 rw[D.stk] at h6;refine wpAny_leaves_onW hfr D.frm h6 λh' f1 f2=>?_;have neL:∀ b o,X.s₀.heap.get? b=some o->b≠X.env.locals:=λb o q=>xAz (xAq (xAm q) I.ok.above)
 have inB:∀ b o,X.s₀.heap.get? b=some o->X.H₀ b=none->b∉X.fs->B.get? b=some o:=λb o q n hb=>by
  have nex:b∉X.ex:=by rw[D.ex]; simp
  refine h9 b o (I.base.keep b o q n hb nex) (I.base.free b o q n nex) ?_;rw[D.stkFrs];intro z;rcases xAo.mp z with z | z
  ·exact neL b o q z
  ·exact hb z
 have allB:∀ b o,X.s₀.heap.get? b=some o->b∉X.fs->∃ o',B.get? b=some o':=λb o q hb=>by
  obtain⟨o1,q1⟩:=I.base.there b o q (by rw[D.ex]; simp);refine h12 b o1 q1 ?_;rw[D.stkFrs];intro z;rcases xAo.mp z with z | z
  ·exact neL b o q z
  ·exact hb z
 refine⟨e,t,cls,vs,H',B,rfl,J.os,h3,⟨λb o q n hb _=>f1.1 b o (inB b o q n hb),λb o q n hb _=>?_,λb o q n _=>J.base.free b o q n (by rw[D.ex]; simp),λb o q _=>?_,J.base.tups,J.base.frzs,J.base.tbls⟩,?_,f1,h7.of_slots f2,h8,inB,h10,allB,hE _ _ _ h11⟩
 ·obtain⟨sl,e1⟩:=J.base.slot b o q n hb (by rw[D.ex]; simp)
  obtain⟨L,oL,hL,hn⟩:=(show ∃ L o,L=b/\s'.heap.get? L=some o/\∀ vs,o.data≠.fields vs from by
   obtain⟨_,oo,hoo,hnf⟩:=(J.funs).mem hb;exact⟨b,oo,rfl,hoo,hnf⟩)
  obtain⟨rfl,hn,hnf⟩:L=b/\s'.heap.get? L=some oL/\∀ vs,oL.data≠.fields vs:=⟨hL,hn.1,hn.2⟩;obtain⟨sl',e2⟩:=f2 L oL hn hnf;rw[e1] at hn;cases hn;exact⟨sl',e2⟩
 ·by_cases hb:b∈X.fs
  ·obtain⟨_,o',ho',_⟩:=f1.2.2.1.mem hb;exact⟨o',ho'⟩
  ·obtain⟨o',ho'⟩:=allB b o q hb;exact⟨o',f1.1 b o' ho'⟩
 ·exact h5.inB h6.1 f1.1 h10
end

abbrev sJ:List Value:=[.type "ValueError",.type "Exception",.type "BaseException",.type "object"]
def yC (K:xAd)(C:Addr):Prop:=excIn K C sJ "ValueError.__new__"=true
theorem yC.at {K:xAd}{C:Addr}{h:Heap}(q:yC K C)(X:K.In h):∃ bm N nm qn bs hd sn sub ab col dd k0 k1 k2 k3 k5 mN,
  h.get? C=some (excClassObj nm qn C N bs bm hd sn sub ab col dd k0 k1 k2 k3 k5 "ValueError.__new__")/\h.Ns N mN/\mN "__init__" = none/\OwnTail h sJ bm:=by
 unfold yC excIn at q;cases hl:K.lookup C with
 | none=>rw[hl] at q; cases q
 | some o=>
  rw[hl] at q;split at q
  ·rename_i dd cd sl ho
   cases ho;split at q
   ·rename_i C' bm k0 k1 k2 k3 n k5 hm hs
    rw[xBw,xBw,xBw,xBw,xBw] at q;obtain⟨⟨⟨⟨⟨q1,q2⟩,q3⟩,q4⟩,q5⟩,q6⟩:=q;have e1:C'=C:=by simpa using q1
    have e2:n="ValueError.__new__":=by simpa using q2
    subst e1 e2;obtain⟨nm,bs,mro,ns,qn,hd,sn,sub,ab,col,del⟩:=cd;have e3:del=false:=by simpa using q3
    have em:mro=.ref C'::bm:=hm;subst e3 em
    have es:sl=#[k0,k1,k2,k3,some (.builtin "ValueError.__new__"),k5]:=by
     obtain⟨l⟩:=sl
     have:l=[k0,k1,k2,k3,some (.builtin "ValueError.__new__"),k5]:=hs
     rw[this]
    subst es;exact⟨bm,ns,nm,qn,bs,hd,sn,sub,ab,col,dd,k0,k1,k2,k3,k5,_,X _ _ hl,.of_isNs (isNs_of_in X q5),nsMap_none_of_in X q5 (by simpa using q6),tail_of_in X q4⟩
   ·cases q
  ·cases q
theorem cU.ex {P:Program}{w:World}{H:Hp}{h:Heap}{a:Addr}{o:HO}(x:cU P w H h a o):∃ ob,h.get? a=some ob:=by
 cases o with
 | lst xs=>obtain⟨_,_,_,_,e⟩:=x; exact⟨_,e⟩
 | tup xs=>obtain⟨_,_,_,ob,e,_⟩:=x; exact⟨_,e⟩
 | dK kvs=>obtain⟨_,_,_,_,o,_,_,e,_⟩:=x; exact⟨_,e⟩
 | dT kvs=>obtain⟨_,_,_,_,o,_,_,e,_⟩:=x; exact⟨_,e⟩
 | set S n=>obtain⟨o,_,_,_,e,_⟩:=x; exact⟨_,e⟩
 | ins C dx fs=>obtain⟨_,_,_,e,_⟩:=x; exact⟨_,e⟩
 | own y=>exact x
 | xd fs=>obtain⟨_,⟨_,_,_,e,_⟩,_⟩:=x; exact⟨_,e⟩
 | rng lo hi=>obtain⟨_,_,_,e⟩:=x; exact⟨_,e⟩
 | frz ob u=>obtain⟨e,_⟩:=x; exact⟨_,e⟩
 | tbl ps=>exact⟨_,(show h.get? a=some _ from x)⟩
 | met f y=>exact⟨_,(show h.get? a=some _ from x)⟩
 | ext φ=>obtain⟨_,e,_⟩:=x; exact e
section
variable {X:Cx}{E:XK}
theorem Cx.Body.raised (D:X.Body E){pins:xPn}{Z:St}{H:Hp}{s:Shared}{h':Heap}{e:Addr}{cls:Value}{us:List Value}(I:Inv X pins Z H s)(hx:Heap.MadeExcOf s.heap h' e cls us)(q:E cls none H) :
  X.xe (.ref e) { s with heap:=h' }:=by
 rw[D.xe];have hfr:X.A.frames=some (X.env::X.outer):=by rw[I.ok.frames,D.stk]
 have hin:∀ env∈X.stack,∀ a,env.frame=some a->a∈frs X.stack:=λenv he a ha=>xBz.mpr ⟨env,he,ha⟩
 have hl:s.heap.FunFrames (hideAll s.heap (frs X.stack)) (X.env::X.outer):=by
  have:=funFrames_hide I.stack hin
  rw[D.stk] at this ⊢;exact this
 refine wpAny_leaves_madeW hfr D.frm (λb o q=>xHu _ q) hl hx λh'' t f1 f2 f3 f4=>?_;have neL:∀ b o,X.s₀.heap.get? b=some o->b≠X.env.locals:=λb o q=>xAz (xAq (xAm q) I.ok.above)
 have nfr:∀ b o,X.s₀.heap.get? b=some o->b∉X.fs->b∉frs X.stack:=λb o q hb z=>by
  rw[D.stkFrs] at z;rcases xAo.mp z with z | z
  ·exact neL b o q z
  ·exact hb z
 have nex:∀ b,b∉X.ex:=λb=>by rw[D.ex]; simp
 have inB:∀ b o,X.s₀.heap.get? b=some o->X.H₀ b=none->b∉X.fs->(hideAll s.heap (frs X.stack)).get? b=some o:=λb o q n hb=>
  xGb _ (I.base.keep b o q n hb (nex b)) (nfr b o q hb)
 have trB:∀ b u,H b=some u->∃ o,(hideAll s.heap (frs X.stack)).get? b=some o:=λb u q=>by
  obtain⟨o,ho⟩:=(I.hok b u q).ex;exact⟨o,xGb _ ho λz=>by rw[I.stkFree b z] at q; cases q⟩
 have allB:∀ b o,X.s₀.heap.get? b=some o->b∉X.fs->∃ o',(hideAll s.heap (frs X.stack)).get? b=some o':=λb o q hb=>by
  obtain⟨o1,q1⟩:=I.base.there b o q (nex b);exact⟨o1,xGb _ q1 (nfr b o q hb)⟩
 refine⟨e,t,cls,us,H,_,rfl,I.os,I.bare,⟨λb o q n hb _=>f1.1 b o (inB b o q n hb),λb o q n hb _=>?_,λb o q n _=>I.base.free b o q n (nex b),λb o q _=>?_,I.base.tups,I.base.frzs,I.base.tbls⟩,
  I.hok.inB (λb o q=>xHu _ q) f1.1 trB,f1,f2,f3,inB,trB,allB,q⟩
 ·obtain⟨sl,e1⟩:=I.base.slot b o q n hb (nex b);obtain⟨_,oo,hoo,hnf⟩:=I.funs.mem hb;obtain⟨sl',e2⟩:=f4 b oo (hx.keeps b oo hoo) hnf;rw[e1] at hoo;cases hoo;exact⟨sl',e2⟩
 ·by_cases hb:b∈X.fs
  ·obtain⟨_,o',ho',_⟩:=f1.2.2.1.mem hb;exact⟨o',ho'⟩
  ·obtain⟨o',ho'⟩:=allB b o q hb;exact⟨o',f1.1 b o' ho'⟩
def aQr (E:XK)(c:Value)(t:TA):TS:=λ_ Z H=>t Z H λvs H1=>vs.length<=sizeLine/\E c none H1
theorem iH {x:Str}{C:Addr}{np cpos pos:Pos}{e₀:Expr}{es:List Expr}{t:TA}(D:X.Body E)(hc:X.calm=true)(hg:Gl X x)(hm:X.mg x=some (.ref C))(hq:yC X.K C)(ha:PA X (e₀::es) t)
  (hs:oA e₀=false:=by rfl)(hpl:(backTo cpos (starEach es X.env)).any (·.1)=false:=by rfl)(hd:(x==("__debug__" : Str))=false:=by decide) :
  PS X (.Raise (some (.Call (.Name x np) (e₀::es) [] cpos)) none pos) (aQr E (.ref C) t):=by
 intro pins s Z H Dn I h;obtain⟨bm,N,nm,qn,bs,hdd,sn,sub,ab,col,dd,k0,k1,k2,k3,k5,mN,hC,hN,hni,T⟩:=hq.at I.mod.kin;have he:starEach (e₀::es) X.env=(false,eval e₀ X.env)::starEach es X.env:=bY hs
 refine wpAny_Raise_call_subT (C:=C) (nm:=nm) (q:=qn) (N:=N) (bs:=bs) (bm:=bm) (hdct:=hdd) (sn:=sn) (sub:=sub) (ab:=ab) (col:=col) (dd:=dd) (k0:=k0) (k1:=k1) (k2:=k2) (k3:=k3) (k5:=k5)
  PySem.F.excBase_ValueError (mN:=mN) (T.hasType PySem.F.excBase_ValueError.hasBase) (I.ok.hd hc) (by rw[he]; exact hpl) hni (gS I hg hm ⟨rfl,?_⟩ hd)
 have ha':=ha cpos pins s Z H _ I h;rw[he] at ha' ⊢;refine xFy (thn ha' λus s1 ⟨vs,H1,I1,r1,hz,q1⟩=>⟨rfl,by rw[<- r1.length]; exact hz,I1.bk _ _ hC,hN.keeps I1.bk,T.keeps I1.bk,λh' e hx=>D.raised I1 hx q1⟩)
end
end L2
namespace L2
open PySem PySem.Spec PySem.Calls PyProof.Rows PySem.W
open PySem.Builtin PySem.Builtin.ObjectAttr PySem.Builtin.Getset_descriptor

structure aBd (K:Frag)(C:Addr):Prop where
 exc:yC K C
 cls:findIn K (.ref C) "__class__" = some (some (.builtin "object.__class__"))
 ga:findIn K (.ref C) "__getattribute__" = some (some (.builtin "BaseException.__getattribute__"))
 no:findIn K (.ref C) "__getattr__"=some none
 ob:mroIn K C (.type "object")=some true
 be:mroIn K C (.type "BaseException")=some true
def iW (e C:Addr)(h:Heap):Prop:=∃ o vs,h.get? e=some o/\o.cls=.ref C/\o.data=.fields vs
section
variable {prog:Program}{w:World}{A:Around}{E:xVP}{s:Shared}{K:Frag}{e C:Addr}
theorem iW.type {M:Model}{h:Heap}(I:iW e C h):Looks M h (typeOf (.ref e)) (.ref C):=by
 obtain⟨o,vs,h1,h2,_⟩:=I;exact h2▸(Looks.ld h1).andThen .now
theorem uZ {tp:Value}{R:Result->Shared->Prop}(X:K.In s.heap)(I:iW e C s.heap)(hm:mroIn K C (.type "object")=some true)(h:R (.ok (.ret (.ref C))) s) :
  codeAny (model prog w) A (.call (.builtin "getset_descriptor.__get__") ⟨[.builtin "object.__class__",.ref e,tp],[]⟩) R s:=by
 obtain⟨hh,g,dr,t,os⟩:=s;have L0:=I.type (M:=model prog w);have L1:=looks_mroIn (M:=model prog w) X hm;refine xEx KF.slot_gs.plain KF.entry_gs (KF.slot_gs.check _ _ _ _ _ _ _ _ KF.type_class (KF.args_gs _ _ _) ?_);unfold Builtin.«getset_descriptor.__get__» descrGet;rw[dga_obj];refine xAb (xAe ?_);unfold descrGetter descrCheckInstance descrNameAndClass isInstance;simp only[KF.owner_class]
 repeat lk
 refine⟨Code.quiet_builtin _ (by decide +kernel),xDq KF.entry_class ?_⟩;unfold Builtin.«object.__class__» shownTypeOf
 repeat lk
 exact h
theorem rT {tk:Tok}{Q:Fin->Shared->Prop}(X:K.In s.heap)(I:iW e C s.heap)(T:aBd K C)(hq:Q (.done (.ret (.ref C))) s) :
  wpAny (model prog w) A (Builtin.«object.__getattribute__» ⟨[.ref e,.str "__class__" tk],[]⟩) Q E s:=by
 obtain⟨hh,g,d,t,os⟩:=s;have L0:=I.type (M:=model prog w);have L1:=looks_findIn (M:=model prog w) X T.cls;obtain⟨o,vs,hx,hc,hd⟩:=id I;have hT5:(⟨hh,g,d,t,os⟩:Shared).TypeIs (.builtin "object.__class__") "getset_descriptor" := F.typeOf_object_class;have f5:=F.typeOf_object_class;have f6:=F.slot_gs_get.lookup;have f7:=F.slot_gs_set.lookup
 repeat (any_goals (first | assumption | (with_reducible refine wpAny_loadPart_at hx ?_; rw[hc]) | with_reducible refine L1.at ?_ | wp_step))
 refine uZ X I T.ob ?_
 repeat (any_goals (first | assumption | wp_step))
theorem xU {M:Model}{nameV:Value}{Q:Unit->Shared->Prop}(X:K.In s.heap)(I:iW e C s.heap)(T:aBd K C)(hq:Q () s) :
  wpAny M A (checkBuiltinCall "BaseException.__getattribute__" ⟨[.ref e,nameV],[]⟩) Q E s:=by
 obtain⟨hh,g,d,t,os⟩:=s;have hk:builtinKind "BaseException.__getattribute__"=some .slot:=by decide +kernel
 have hsplit:splitId "BaseException.__getattribute__" = some ("BaseException","__getattribute__"):=by decide +kernel
 have L0:=I.type (M:=M);have L1:=looks_mroIn (M:=M) X T.be;have ha:=F.args_bexc_ga (.ref e) nameV;simp only[checkBuiltinCall,hk,hsplit];refine xAb ?_;unfold isInstance;refine xAb (L0.at (L1.at ?_))
 repeat (first | assumption | wp_step)
theorem uB {tk:Tok}{R:Result->Shared->Prop}(X:K.In s.heap)(I:iW e C s.heap)(T:aBd K C)(hq:R (.ok (.ret (.ref C))) s) :
  codeAny (model prog w) A (.call (.builtin "BaseException.__getattribute__") ⟨[.ref e,.str "__class__" tk],[]⟩) R s:=
 xEx PySem.F.attr_ValueError.ga.plain F.entry_bexc_ga (xU X I T (rT X I T hq))
theorem uC {Q:xOP}(X:K.In s.heap)(I:iW e C s.heap)(T:aBd K C)(hq:Q (some (.ref C)) { s with toks:=s.toks+1 }) :
  wpAny (model prog w) A (getAttr? (.ref e) "__class__") Q E s:=by
 obtain⟨hh,g,d,t,os⟩:=s;have L0:=I.type (M:=model prog w);have L1:=looks_findIn (M:=model prog w) X T.ga;have L2:=looks_findIn (M:=model prog w) X T.no;have f3:=PySem.F.attr_ValueError.ga.bind (.ref e);have hx2:(Value.builtin "BaseException.__getattribute__" == Value.builtin "object.__getattribute__")=false:=by decide +kernel
 have hx1:(onTheHeap (Value.ref C)&&Value.builtin "BaseException.__getattribute__" == Value.builtin "object.__getattribute__")=false:=by rw[hx2]; rfl
 unfold getAttr? getAttrBy? getAttrBy;refine xAb (wpAny_mkText (xAb (xFg (xCu (xAb (L0.at (xAb (L1.at ?_))))))));dsimp only;rw[xAy (by rw[hx1]; exact xAs)];unfold getAttrByItsOwn hookBefore;rw[show onTheHeap (Value.ref C)=true from rfl,xBe rfl]
 refine xAb (L2.at ?_);unfold callGetattribute
 repeat (any_goals (first | assumption | wp_step))
 refine uB (s:=⟨hh,g,d,t+1,os⟩) X I T ?_
 repeat (any_goals (first | assumption | wp_step))
theorem aLt (T:aBd K C):KitX K (.ref e) (.ref C) (iW e C) where
 ty:=λ_ _ _ I=>I.type
 it:=λ_ _ X _=>by
  obtain⟨bm,N,nm,qn,bs,hd,sn,sub,ab,col,dd,k0,k1,k2,k3,k5,mN,hC,_⟩:=T.exc.at X;intro A' Q' E' s' k q;unfold isType loadHead;exact xAb (wpAny_loadPart (k _ _ hC) (xAe q))
 ne:=λh tp dd its n sl X htp=>by
  obtain⟨bm,N,nm,qn,bs,hd,sn,sub,ab,col,dd',k0,k1,k2,k3,k5,mN,hC,_⟩:=T.exc.at X;refine xCs.mpr λq=>?_;have ec:C=tp:=Value.ref.inj (xEe.mp q);subst ec;have z:=congrArg Obj.data (xBp (hC.symm.trans htp));unfold excClassObj at z;cases z
 ca:=λX I k=>uC X I T k
end
def aFl (H:Hp)(e C:Addr):Prop:=H e=some (.ext (iW e C))
inductive aXu (K:xAd)(xs:List V)(H:Hp)(Q:VK):Prop
 | mk (e:_)(C:_)(c:_)(cv:_)(b:_)(h0_:xs=[.ref e,c])(h1_:(∀ u,cJ c u->u=cv))(h2_:aFl H e C)(h3_:aBd K C)(h4_:kitOne K (.ref C) cv=some b)(h5_:Q (.bl b) H)
theorem wI {X:Cx}:CallR X (.builtin "isinstance") (aXu X.K):=by
 intro pins s Z H xs us Q I r h;obtain⟨e,C,c,cv,b,rfl,hc,hx,T,hb,q⟩:=h;obtain⟨u,w',rfl,rx,rc⟩:=yE r;cases rx;have ec:=hc w' rc;subst ec;obtain⟨ha,_,_⟩:=(show cU X.prog X.w H s.heap e (.ext (iW e C)) from I.hok e _ hx)
 exact kia_one (aLt T) I.kIn ha hb (λz=>nomatch z) λtk=>⟨.bl b,H,I.tok tk,rfl,q⟩
end L2
namespace L2
open PySem PySem.Spec PySem.Calls PyProof.Rows PySem.W

structure Cx.Frame (X:Cx):Prop where
 stk:X.stack=X.env::X.outer
 frm:X.env.frame=some X.env.locals
abbrev Cx.pinned (X:Cx)(pn:xPn)(E:xVP):Cx:={ X with pn:=pn,xe:=E }
abbrev Cx.caught (X:Cx)(e:Addr)(pn:xPn):Cx:={ X with A:=X.A.mark (some (.ref e)),calm:=false,pn:=pn,xe:=λ_ _=>False }
def pG (Z:St):St:=Z.map λ_=>none
theorem aHa {Z:St}{i:Nat}{v:V}(h:(pG Z)[i]?=some (some v)):False:=by
 unfold pG at h;rw[xAg] at h;cases e:Z[i]? with
 | none=>rw[e] at h; cases h
 | some z=>rw[e] at h; cases h
theorem aGz (Z:St):(pG Z).length=Z.length:=by unfold pG; rw[xAa]
section
variable {X:Cx}{pins:xPn}{Z:St}{H:Hp}{s:Shared}
theorem Inv.repin (I:Inv X pins Z H s)(E:xVP):Inv (X.pinned (X.pn++pins) E) [] Z H s:=
 ⟨⟨I.ok.mod,I.ok.kind,I.ok.glob,I.ok.blt,I.ok.above,I.ok.inj,I.ok.has,I.ok.cab,I.ok.hd,I.ok.frames,I.ok.stk,I.ok.exf,I.ok.bs,I.ok.bsz,I.ok.noex,I.ok.exfs,I.ok.funs,I.ok.frf⟩,
  I.os,I.bare,I.base,I.loc,I.cell,I.free,I.freeC,λp hp=>I.pin p (by simpa using hp),I.hok,I.len⟩
theorem Inv.unpin {E:xVP}{pl:xPn}(I:Inv (X.pinned (X.pn++pins) E) pl Z H s):Inv X pins Z H s:=
 ⟨⟨I.ok.mod,I.ok.kind,I.ok.glob,I.ok.blt,I.ok.above,I.ok.inj,I.ok.has,I.ok.cab,I.ok.hd,I.ok.frames,I.ok.stk,I.ok.exf,I.ok.bs,I.ok.bsz,I.ok.noex,I.ok.exfs,I.ok.funs,I.ok.frf⟩,
  I.os,I.bare,I.base,I.loc,I.cell,I.free,I.freeC,λp hp=>I.pin p (xDk _ hp),I.hok,I.len⟩
theorem Inv.mark (I:Inv X pins Z H s)(e:Addr):Inv (X.caught e (X.pn++pins)) [] Z H s:=
 ⟨⟨I.ok.mod,I.ok.kind,I.ok.glob,I.ok.blt,I.ok.above,I.ok.inj,I.ok.has,I.ok.cab,(λz=>nomatch z),I.ok.frames,I.ok.stk,I.ok.exf,I.ok.bs,I.ok.bsz,I.ok.noex,I.ok.exfs,I.ok.funs,I.ok.frf⟩,
  I.os,I.bare,I.base,I.loc,I.cell,I.free,I.freeC,λp hp=>I.pin p (by simpa using hp),I.hok,I.len⟩
theorem Inv.unmark {e:Addr}{pl:xPn}(I:Inv (X.caught e (X.pn++pins)) pl Z H s)(ok:X.Ok):Inv X pins Z H s:=
 ⟨ok,I.os,I.bare,I.base,I.loc,I.cell,I.free,I.freeC,λp hp=>I.pin p (xDk _ hp),I.hok,I.len⟩
theorem Inv.forget {h':Heap}{m':xSO}{t':Nat}(I:Inv X pins Z H s)(ns:h'.Ns X.env.locals m')(sb:Heap.SameBut X.env.locals s.heap h'):Inv X pins (pG Z) H { s with heap:=h',toks:=t' }:=by
 have ne:∀ b u,H b=some u->b≠X.env.locals:=λb u q z=>by rw[z,I.free] at q; cases q
 have neL:∀ b o,X.s₀.heap.get? b=some o->b≠X.env.locals:=λb o e=>xAz (xAq (xAm e) I.ok.above)
 refine⟨I.ok,I.os,I.bare,⟨λb o q n hb hx=>(sb.2 b (neL b o q)).trans (I.base.keep b o q n hb hx),λb o q n hb hx=>?_,I.base.free,λb o q hx=>?_,I.base.tups,I.base.frzs,I.base.tbls⟩,
  ⟨m',ns,λi x v e1 e2=>(aHa e2).elim⟩,λx c e=>?_,I.free,I.freeC,λp hp=>?_,λb u q=>?_,(aGz Z).trans I.len⟩
 ·obtain⟨sl,e1⟩:=I.base.slot b o q n hb hx;exact⟨sl,(sb.2 b (neL b o q)).trans e1⟩
 ·obtain⟨o',e1⟩:=I.base.there b o q hx;exact⟨o',(sb.2 b (neL b o q)).trans e1⟩
 ·obtain⟨v,z⟩:=I.cell x c e;exact⟨v,z.sameBut sb (I.cne x c e)⟩
 ·obtain⟨e1,n,ne',nf,d⟩:=I.pin p hp;exact⟨(sb.2 p.1 ne').trans e1,n,ne',nf,d⟩
 ·refine (I.hok b u q).stay (λc v hc z=>(sb.2 c ?_).trans z) (λ_ z=>z) λ_ _ z=>z;rcases hc with rfl | hc
  ·exact ne c u q
  ·exact ne c _ hc
end
section
variable {X:Cx}
theorem aLp {pins:xPn}{Z:St}{H H1:Hp}{s s1:Shared}{e C:Addr}{a0:Value}{B h':Heap}(I:Inv X pins Z H s)(ho:s1.os=s.os)(hg:AllBare s1.gens)(u:Un (frs X.stack) [] H H1 s.heap s1.heap)(hk:HOk X.prog X.w H1 s1.heap)
  (f0:B.StaysIn s1.heap)(fl:Heap.FlyingW B X.stack e (.ref C) a0 h')(up:s1.heap.UpToSlots h')(inB:∀ b o,s.heap.get? b=some o->H b=none->b∉frs X.stack->B.get? b=some o)(trB:∀ b v,H1 b=some v->∃ o,B.get? b=some o)
  (allB:∀ b o,s.heap.get? b=some o->b∉frs X.stack->∃ o',B.get? b=some o'):H1 e=none/\Inv X pins Z (upd H1 e (.ext (iW e C))) { s1 with heap:=h' }:=by
 have he:H1 e=none:=by
  cases q:H1 e with
  | none=>rfl
  | some v=>
   obtain⟨o,z⟩:=trB e v q;rw[fl.2.1] at z;cases z
 obtain⟨oe,vs,hoe,hoc,hod,_⟩:=fl.first
 have efr:e∉frs X.stack:=λz=>by
  obtain⟨_,o,h1,h2⟩:=fl.2.2.1.mem z;rw[hoe] at h1;cases h1;exact h2 vs hod
 have eold:∀ o,s.heap.get? e≠some o:=λo z=>by
  obtain⟨o',z'⟩:=allB e o z efr;rw[fl.2.1] at z';cases z'
 have hok:HOk X.prog X.w H1 h':=hk.inB f0 fl.1 trB;have xat:iW e C h':=⟨oe,vs,hoe,hoc,hod⟩
 have hok':HOk X.prog X.w (upd H1 e (.ext (iW e C))) h':=λb v q=>by
  by_cases hb:b=e
  ·subst hb;rw[aD] at q;cases q;exact⟨xat,⟨oe,hoe⟩,λh1 h2 ⟨o,ws,p1,p2,p3⟩ k=>⟨o,ws,k o p1,p2,p3⟩⟩
  ·rw[aG hb] at q;exact (hok b v q).stay (λ_ _ _ z=>z) (λc z=>by rw[aG (aF z he)]; exact z) λc xs z=>by rw[aG (aF z he)]; exact z
 refine⟨he,I.call' (ch:=[]) (s':={ s1 with heap:=h' }) ho ⟨λb o q n hb _=>fl.1 b o (inB b o q n hb),λb o q n hb _=>?_,λb o q n hx=>?_,λb o q hx=>?_,λb xs q=>?_,λb o v q=>?_,λb ps q=>?_⟩ hok' hg λ_ z=>nomatch z⟩
 ·obtain⟨sl,e1⟩:=u.slot b o q n hb (by simp);obtain⟨_,oo,hoo,hnf⟩:=I.stack.mem hb;rw[q] at hoo;cases hoo;obtain⟨sl',e2⟩:=up b _ e1 hnf;exact⟨sl',e2⟩
 ·rw[aG λz=>eold o (by rw[<- z]; exact q)];exact u.free b o q n (by simp)
 ·by_cases hb:b∈frs X.stack
  ·obtain⟨_,o',ho',_⟩:=fl.2.2.1.mem hb;exact⟨o',ho'⟩
  ·obtain⟨o',ho'⟩:=allB b o q hb;exact⟨o',fl.1 b o' ho'⟩
 ·have z:=u.tups b xs q;rw[aG (aF z he)];exact z
 ·have z:=u.frzs b o v q;rw[aG (aF z he)];exact z
 ·obtain⟨more,z⟩:=u.tbls b ps q;exact⟨more,by rw[aG (aF z he)]; exact z⟩
def aVn (K:xAd)(Ew:XK)(wv:Value)(i:Nat)(tb ts:TS):TS:=λD Z H=>tb D Z H/\∀ cls H1,Ew cls none H1->∃ C,cls=.ref C/\exmOne K (.ref C) wv=some true /\
 ∀ (e:Addr) (Z1:St),Z1.length=Z.length->H1 e=none->ts { nx:=λZ2 H2=>D.nx (pG Z2) H2,rt:=D.rt,bk:=λZ2 H2=>D.bk (pG Z2) H2,ct:=λZ2 H2=>D.ct (pG Z2) H2 } (Z1.set i (some (.ref e))) (upd H1 e (.ext (iW e C)))
theorem aJw {body:List Stmt}{x n:Str}{W:Addr}{np hpos pos:Pos}{b₀:Stmt}{suite:List Stmt}{i:Nat}{tb ts:TS}(Ew:XK)(F:X.Frame)(hc:X.calm=true)(hN:X.N.Nodup)(hi:X.N[i]?=some n)(hl:X.env.scope.names.lookup n=some .local)
  (hg:Gl X x)(hm:X.mg x=some (.ref W))(hb:∀ pn E,gF (CXE X.prog X.w) (X.pinned pn E) Ew->PSs (X.pinned pn E) body tb)(hs:∀ e pn,PSs (X.caught e pn) (b₀::suite) ts)
  (hd:(x==("__debug__" : Str))=false:=by decide) :
  PS X (.Try body [.ExceptHandler (some (.Name x np)) (some n) (b₀::suite) hpos] [] [] pos) (aVn X.K Ew (.ref W) i tb ts):=by
 intro pins s Z H D I h;obtain⟨h1,h2⟩:=h
 have pass:gF (CXE X.prog X.w) (X.pinned (X.pn++pins) λev s'=>∃ pl Z0 H0 s0,Inv (X.pinned (X.pn++pins) λ_ _=>True) pl Z0 H0 s0/\CXE X.prog X.w X.stack H0 s0 Ew ev s') Ew:=λpl Z0 H0 s0 ev s' I0 hx=>
  ⟨pl,Z0,H0,s0,⟨⟨I0.ok.mod,I0.ok.kind,I0.ok.glob,I0.ok.blt,I0.ok.above,I0.ok.inj,I0.ok.has,I0.ok.cab,I0.ok.hd,I0.ok.frames,I0.ok.stk,I0.ok.exf,I0.ok.bs,I0.ok.bsz,I0.ok.noex,I0.ok.exfs,I0.ok.funs,I0.ok.frf⟩,
   I0.os,I0.bare,I0.base,I0.loc,I0.cell,I0.free,I0.freeC,I0.pin,I0.hok,I0.len⟩,hx⟩
 refine wpAny_Try_except (xCr (hb _ _ pass [] s Z H D (I.repin _) h1) (λf s1 q=>?_) λev s1 q=>?_)
 ·cases f with
  | next=>
   obtain⟨Z1,H1,I1,q1⟩:=q;exact xGa ⟨Z1,H1,I1.unpin,q1⟩
  | brk=>obtain⟨Z1,H1,I1,q1⟩:=q; exact⟨Z1,H1,I1.unpin,q1⟩
  | cont=>obtain⟨Z1,H1,I1,q1⟩:=q; exact⟨Z1,H1,I1.unpin,q1⟩
  | ret u=>obtain⟨v,Z1,H1,I1,r1,q1⟩:=q; exact⟨v,Z1,H1,I1.unpin,r1,q1⟩
 ·obtain⟨pl,Z0,H0,s0,I0',e,t,cls,vs,H1,B,rfl,g2,g3,g4,g5,g6,g7,g8,g9,g10,g12,g11⟩:=q;have I0:Inv X pins Z0 H0 s0:=I0'.unpin;obtain⟨C,rfl,hmatch,hts⟩:=h2 cls H1 g11;have hfr:X.A.frames=some (X.env::X.outer):=by rw[I.ok.frames,F.stk]
  have g6':=g6;rw[F.stk] at g6';refine wpAny_looks_onW hfr F.frm g6' λh3 held3 up3=>?_;refine wpAny_landsW held3 λh4 fl4 up4=>?_;have fl4':Heap.FlyingW B X.stack e (.ref C) (.ref t) h4:=by rw[F.stk]; exact fl4
  have st4:=(aLp I0 g2 g3 g4 g5 g6.1 fl4' (up3.trans up4) g9 g10 g12).2;have K4:=st4.mark e;refine wpAny_handleBy_cons (codeAny_handlers_test (gS (X:=X.caught e (X.pn++pins)) K4 hg hm ?_ hd)) (by intro z; cases z);obtain⟨oe,ws,hoe,hoc,hod,_⟩:=fl4.first;have LT:Looks (model X.prog X.w) h4 (typeOf (.ref e)) (.ref C):=(show iW e C h4 from ⟨oe,ws,hoe,hoc,hod⟩).type
  refine (exm_one (M:=model X.prog X.w) K4.kIn LT hmatch).at ?_;refine codeAny_handlers_suite_as ?_;refine lands_againW fl4 λh5 fl5 up5=>?_;have fl5':Heap.FlyingW B X.stack e (.ref C) (.ref t) h5:=by rw[F.stk]; exact fl5
  obtain⟨he,st5⟩:=aLp I0 g2 g3 g4 g5 g6.1 fl5' ((up3.trans up4).trans up5) g9 g10 g12;have K5:=st5.mark e;refine sM (X:=X.caught e (X.pn++pins)) K5 hN hi (.inl hl) (v:=.ref e) rfl (λs6 I6=>?_) (.inr hl);refine xCr (hs e (X.pn++pins) [] s6 _ _ _ I6 (hts e Z0 (I0.len.trans I.len.symm) he)) (λf s7 q7=>?_) λ_ _ z=>z.elim
  have gone:∀ {Z7:St}{H7:Hp}{Q:Unit->Shared->Prop}{E:xVP},Inv (X.caught e (X.pn++pins)) [] Z7 H7 s7->(∀ s8,Inv X pins (pG Z7) H7 s8->Q () s8) ->
    wpAny (model X.prog X.w) X.A (do bindName X.env n .none; unbindBehindTheSuite X.env n hpos) Q E s7:=λ{Z7 H7 Q E} I7 k=>by
   have J7:Inv X pins Z7 H7 s7:=I7.unmark I.ok;obtain⟨m,hn,_⟩:=J7.loc;exact wpAny_nameGoes hl hn (by rw[I.ok.kind]; rfl) λh8 m8 ns8 sb8=>k _ (J7.forget ns8 sb8)
  cases f with
  | next=>obtain⟨Z7,H7,I7,q7⟩:=q7; exact gone I7 λs8 I8=>⟨_,H7,I8,q7⟩
  | brk=>obtain⟨Z7,H7,I7,q7⟩:=q7; exact gone I7 λs8 I8=>⟨_,H7,I8,q7⟩
  | cont=>obtain⟨Z7,H7,I7,q7⟩:=q7; exact gone I7 λs8 I8=>⟨_,H7,I8,q7⟩
  | ret u=>obtain⟨v,Z7,H7,I7,r7,q7⟩:=q7; exact gone I7 λs8 I8=>⟨v,_,H7,I8,r7,q7⟩
end
structure nW (k:Nat)(A:Around):Prop where
 dp:A.depth+3*k+5<recursionLimit
 un:A.units+16*k+200<cLine
theorem nW.deeper {k:Nat}{A:Around}(r:nW (k+1) A)(env:Env):nW k (A.deeper env):=
 ⟨by have:=r.dp; show A.depth+1+3*k+5<_; omega,by have:=r.un; show A.units+3+16*k+200<_; omega⟩
theorem nW.depth {k:Nat}{A:Around}(r:nW k A):A.depth<recursionLimit:=by have:=r.dp; omega
def cxU (P:Program)(w:World)(K:xAd)(mg:xSO)(base:Heap)(N:List Str)(qual:Str)(scope:Scope)(f:Addr)(cd:Value)(A:Around)(outer:List Env)(s:Shared)(H:Hp):Cx:=
 { iC CX0 P w K mg base N qual scope f cd A outer s H E0 with calm:=false,xe:=λ_ _=>False }
structure aBc (P:Program)(w:World)(K:xAd)(mg:xSO)(base:Heap)(k:Nat)(f:Addr)(fd:FuncData)(ps:List Str)(sp:Sp):Prop where
 len:∀ vs H Q E,sp vs H Q E->vs.length=ps.length
 run:∀ (A:Around) (outer:List Env) (s:Shared) (H:Hp) (args:Args) (us:List Value) (vs:List V) (Q:VK),nW k A->rB P w K mg base A outer s H->BindsTo s fd args (ps.zip us)->bZ vs us->sp vs H Q E0 ->
  codeAny (model P w) A (.call (.ref f) args) (CR CX0 outer P w H s Q E0) s
section
variable {P:Program}{w:World}{K:xAd}{mg:xSO}{base:Heap}
theorem aDf {N ps:List Str}{qual:Str}{scope:Scope}{f:Addr}{cd:Value}{A:Around}{outer:List Env}{s s1:Shared}{H:Hp}{us:List Value}{vs:List V}
  (S:aQ N ps scope)(e0:rB P w K mg base A outer s H)(hl:vs.length=ps.length)(r:bZ vs us)
  (x:InCallC s s.heap.objs.size (bindL (envOfC qual scope s.heap.objs.size f cd).kindOf (ps.zip us) λ_=>none) (cellsFrom (s.heap.objs.size+1) scope.names []) (bindC (envOfC qual scope s.heap.objs.size f cd).kindOf (ps.zip us) λ_=>none) s1) :
  Inv (cxU P w K mg base N qual scope f cd A outer s H) [] (start N vs) H s1:=by
 have J:=qU (CX:=CX0) (E:=E0) (A:={ A with handled:=none }) (f:=f) (cd:=cd) S rfl ⟨e0.frames,e0.mod,e0.bs,e0.bsz,e0.funs,e0.frf,e0.hok,e0.bare⟩ hl r x
 exact⟨⟨J.ok.mod,J.ok.kind,J.ok.glob,J.ok.blt,J.ok.above,J.ok.inj,J.ok.has,J.ok.cab,(λz=>nomatch z),Around.frames_deeper e0.frames,J.ok.stk,J.ok.exf,J.ok.bs,J.ok.bsz,J.ok.noex,J.ok.exfs,J.ok.funs,J.ok.frf⟩,
  J.os,J.bare,J.base,J.loc,J.cell,J.free,J.freeC,J.pin,J.hok,J.len⟩
theorem Fun.okU {x qual:Str}{st:Stmt}{f:Addr}{fd:FuncData}{N ps:List Str}{k:Nat}{sp:Sp}(F:Fun K x qual st f fd)(S:aQ N ps (aB st))(len:∀ vs H Q E,sp vs H Q E->vs.length=ps.length)
  (hbody:∀ (cdv:Value) (A:Around) (outer:List Env) (s:Shared) (H:Hp) (vs:List V) (Q:VK),nW k (A.deeper (envOfC qual (aB st) s.heap.objs.size f cdv))->sp vs H Q E0 ->
   ∃ t,PSs (cxU P w K mg base N qual (aB st) f cdv A outer s H) (aI st) t/\t { nx:=λ_ H'=>Q .non H',rt:=Q } (start N vs) H):aBc P w K mg base (k+1) f fd ps sp:=by
 obtain⟨oc,od,kV,doc,pm,an,cdv,ct,osl,rfl,lk,hcd⟩:=F.ex;refine⟨len,λA outer s H args us vs Q hr e0 hb r hsp=>?_⟩;have hl:=len _ _ _ _ hsp;have KX:K.In s.heap:=e0.mod.kin.keeps λb o e=>(e0.bs b o e).1;have lim:s.heap.NoLimit:=e0.mod.nolimit.keeps λb o e=>(e0.bs b o e).1
 have hkind:∀ y∈ps.zip us,(aB st).names.lookup y.1=some .local\/((aB st).names.lookup y.1=some .cell/\((cellsFrom (s.heap.objs.size+1) (aB st).names []).lookup y.1).isSome=true):=λ⟨n,v⟩ hy=>by
  rcases S.par n (xGd hy).1 with q | q
  ·exact .inl q
  ·exact .inr ⟨q,xHb _ _ _ (.inl q)⟩
 refine xHf hr.depth (KX _ _ lk) rfl S.co S.gen rfl (codeRec_of KX hcd) (hb _ _ _ _ ?_);refine xGj S.kind hkind λenv he s1 x=>?_;subst he;refine⟨lim.keeps x.toInCall.keep,xJu ?_⟩;obtain⟨t,ht,hq⟩:=hbody cdv A outer s H vs Q (hr.deeper _) hsp;have I:Inv (cxU P w K mg base N qual (aB st) f cdv A outer s H) [] (start N vs) H s1:=aDf S e0 hl r x;refine xCr (ht [] s1 (start N vs) H _ I hq) (λfl s' hs=>?_) λe s' hs=>hs.elim
 have fin:∀ {Z':St}{H':Hp}{v:V}{u:Value},Inv (cxU P w K mg base N qual (aB st) f cdv A outer s H) [] Z' H' s'->cJ v u->Q v H'->CE outer P w H s Q u s':=
  λ{Z' H' v u} J rv q=>⟨v,H',J.os,J.bare,J.base,J.hok,rv,q⟩
 cases fl with
 | ret u=>obtain⟨v,Z',H',J,rv,q⟩:=hs; exact fin J rv q
 | next=>obtain⟨Z',H',J,q⟩:=hs; exact fin (v:=V.non) (u:=Value.none) J rfl q
 | brk=>obtain⟨_,_,_,q⟩:=hs; exact False.elim q
 | cont=>obtain⟨_,_,_,q⟩:=hs; exact False.elim q
end
section
variable {X:Cx}{k:Nat}{f:Addr}{fd:FuncData}{ps:List Str}{sp:Sp}{x:Str}{e:Expr}{es:List Expr}{t:TA}{p pos:Pos}
theorem zP (F:aBc X.prog X.w X.K X.mg X.base k f fd ps sp)(hr:nW k X.A)(hg:Gl X x)(hm:X.mg x=some (.ref f))(hk:keepIn X.K (.ref f)=true)(hb:aW X.K fd ps [])
  (ha:PA X (e::es) t)(hs:oA e=false:=by rfl)(hdb:(x==("__debug__" : Str))=false:=by decide)(hpl:(backTo pos (starEach es X.env)).any (·.1)=false:=by rfl) :
  PE X (.Call (.Name x p) (e::es) [] pos) (aIt sp [] E0 t):=by
 intro pins s Z H Q I h;refine xCl (gS I hg hm ?_ hdb);refine xFh (h₀:=X.base) I.ok.mod.kin hk (thn (ha pos pins s Z H _ I h) λus s1 ⟨vs,H1,I1,r,q⟩=>⟨I1.kIn,?_⟩) (bY hs) hpl;have q':sp vs H1 Q E0:=by have z:sp (vs++[]) H1 Q E0:=q; rw[xBm] at z; exact z
 have hl:us.length=ps.length:=by rw[<- r.length]; exact F.len _ _ _ _ q'
 have hb':=hb s1 us I1.kIn (by rw[xBm]; exact hl);rw[xBm] at hb';refine xFc (xDl (F.run X.A X.stack s1 H1 ⟨us,[]⟩ us vs Q hr I1.env0 hb' r q') λrr s' hq=>?_);cases rr with
 | error e=>exact False.elim hq
 | ok fl=>
  cases fl with
  | ret u=>exact I1.after hq
  | next=>exact False.elim hq
  | brk=>exact False.elim hq
  | cont=>exact False.elim hq
end
def jT (mg:xSO)(base:Heap):Prop:=∃ bm ob,mg "__builtins__" = some (.ref bm)/\bm≠builtinsNs/\base.get? bm=some ob/\ob.cls=.type "module" /\ ob.dict=some builtinsNs/\ob.data=.plain
def eU (c:Addr)(q:Str)(h:Heap):Prop:=∃ o vs t,h.get? c=some o/\o.data=.fields vs/\vs[1]?=some (.str q t)
section
variable {X:Cx}{pins:xPn}{Z:St}{H:Hp}{s:Shared}
theorem Inv.lamTab {P c':Addr}{q:Str}{ps more:Array Value}{h':Heap}{t':Nat}(I:Inv X pins Z H s)(hP:H P=some (.tbl ps))(k:Heap.ExtBut P s.heap h')(hn:h'.get? P=some (tabObj (ps++more)))
  (hge:s.heap.objs.size<=c')(hcd:eU c' q h'):Inv X pins Z (upd (upd H P (.tbl (ps++more))) c' (.ext (eU c' q))) { s with heap:=h',toks:=t' }:=by
 have neP:∀ b,H b=none->b≠P:=λb n z=>by rw[z,hP] at n; cases n
 have nec:∀ b o,s.heap.get? b=some o->b≠c':=λb o e=>xAz (xAq (xAm e) hge);have hc0:H c'=none:=I.hok.fresh hge;have cP:c'≠P:=neP c' hc0;have H2:∀ b u,H b=some u->b≠P->upd (upd H P (.tbl (ps++more))) c' (.ext (eU c' q)) b=some u:=λb u e hb=>by rw[aG (aF e hc0),aG hb]; exact e
 refine I.step (g':=s.gens) (d':=s.drawn) (ch:=[]) (λ_ z=>nomatch z) (λb o _ _ _ e n=>k b o (neP b n) e) (λb o _ _ _ e n=>⟨o.slots,k b o (neP b n) e⟩)
  (λb o _ e n=>by rw[aG (nec b o e),aG (neP b n)]; exact n) (λb o _ e=>?_) (λb xs e=>H2 b _ e λz=>by rw[z,hP] at e; cases e) (λb o u e=>H2 b _ e λz=>by rw[z,hP] at e; cases e)
  (λb ps' e=>?_) (λm hm=>hm.extBut k (neP _ I.free)) (λb u e=>?_) I.bare
 ·by_cases hb:b=P
  ·subst hb; exact⟨_,hn⟩
  ·exact⟨o,k b o hb e⟩
 ·by_cases hb:b=P
  ·subst hb;rw[hP] at e;cases e;exact⟨more,by rw[aG (Ne.symm cP),aD]⟩
  ·exact⟨#[],by rw[H2 b _ e hb]; simp⟩
 ·by_cases hb:b=c'
  ·subst hb;rw[aD] at e;cases e;obtain⟨o,vs,t,e1,e2,e3⟩:=id hcd;exact⟨hcd,⟨o,e1⟩,λh1 h2 ⟨o,vs,t,p1,p2,p3⟩ kk=>⟨o,vs,t,kk o p1,p2,p3⟩⟩
  ·rw[aG hb] at e
   by_cases hbP:b=P
   ·subst hbP;rw[aD] at e;cases e;exact hn
   ·rw[aG hbP] at e;refine (I.hok b u e).stay (λd v hd z=>k d v ?_ z) (λd z=>H2 d _ z λy=>by rw[y,hP] at z; cases z) λd xs z=>H2 d _ z λy=>by rw[y,hP] at z; cases z
    rcases hd with rfl | hd
    ·exact hbP
    ·intro y;rw[y,hP] at hd;cases hd
theorem aAi {params:Arguments}{body:Expr}{scope:Scope}{pos:Pos}{c P:Addr}{ps:Array Value}{Q:xVP}{E:xVP}(I:Inv X pins Z H s)(hcode:X.env.code=.ref c)(hc:codeHdIn X.K c P=true)(bm:jT X.mg X.base)
  (hP:H P=some (.tbl ps))(ht:TriplesOk ps.toList)(hnf:codeAmong pos ps.toList=none)(hdef:defaultsOf params X.env=([],[]))(hfr:∀ n∈cV scope,X.env.kindOf n=some .cell\/X.env.kindOf n=some .free)
  (k:∀ (f c':Addr) (pm ctv:Value) (s1:Shared),Inv X pins Z (upd (upd H P (.tbl (ps++#[rawInt pos.line,rawInt pos.col,.ref c']))) c' (.ext (eU c' (X.env.qual++"<lambda>")))) s1->H c'=none->c'≠P->c'<f->s.heap.objs.size<=c' ->
   (∀ b o,b≠P->s.heap.get? b=some o->s1.heap.get? b=some o) ->
   s1.heap.get? f=some (kla_obj "<lambda>" (X.env.qual++"<lambda>") params body scope (dE scope X.env) pm c' ctv)->Q (.ref f) s1) :
  wpAny (model X.prog X.w) X.A (eval (.Lambda params body scope pos) X.env) Q E s:=by
 have hcl:closureFor scope X.env=pure (dE scope X.env):=iD λn hn=>I.ok.has n (hfr n hn);obtain⟨b,ob,b1,b2,b3,b4,b5,b6⟩:=bm;have hg:s.heap.Ns mainGlobals X.mg:=I.mod.glob.keeps I.bk;have bP:∀ d o,X.base.get? d=some o->d≠P:=λd o e z=>by have:=(I.bs d o e).2; rw[z,hP] at this; cases this
 have hgP:mainGlobals≠P:=by
  obtain⟨o,_,_,e,_⟩:=I.mod.glob;exact bP _ o e
 have hbG:b≠mainGlobals:=λz=>by
  obtain⟨o,es,ep,e,hd,_⟩:=I.mod.glob;rw[z,e] at b3;cases b3;rw[hd] at b6;cases b6
 have hob:s.heap.get? P=some (tabObj ps):=I.hok P _ hP;refine kla_eval hdef (kla_makeFunction (mg:=X.mg) hcl I.ok.glob hg hcode (codeHd_of_K I.kIn hc) hob ht hnf hgP ⟨b,ob,b1,b2,hbG,bP _ _ b3,I.bk _ _ b3,b4,b5,b6⟩ λc' ctv h' tk hx hge hlt hrec htb=>?_);obtain⟨c2,o2,vs2,t2,e2,r1,r2,r3⟩:=hrec;cases e2;have hc0:H c'=none:=I.hok.fresh hge
 refine k h'.objs.size c' _ ctv _ (I.lamTab (t':=tk) hP (λd o hd e=>xAf _ (hx d o hd e)) (xAf _ htb) hge ⟨o2,vs2,t2,xAf _ r1,r2,r3⟩) hc0 (λz=>by rw[z,hP] at hc0; cases hc0) hlt hge
  (λd o hd e=>xAf _ (hx d o hd e)) (xAk _ rfl)
end
structure mO (h:Heap)(H:Hp)(fr:List Addr)(f c':Addr)(q:Str)(params:Arguments)(body:Expr)(scope:Scope)(cl:List (Str×Addr))(NL:List Str)(ZL:St):Prop where
 fn:∃ pm ctv,h.get? f=some (kla_obj "<lambda>" q params body scope cl pm c' ctv)
 fH:H f=none
 ff:f∉fr
 code:H c'=some (.ext (eU c' q))
 inj:∀ x y a,cl.lookup x=some a->cl.lookup y=some a->x=y
 cell:∀ x a,cl.lookup x=some a->(∃ v,h.IsCell a v)/\H a=none/\a∉fr
 val:∀ (i:Nat) x v,NL[i]?=some x->ZL[i]?=some (some v)->∃ a u,cl.lookup x=some a/\cJ v u/\h.IsCell a (some u)
 len:ZL.length=NL.length
theorem mO.stay {h h':Heap}{H:Hp}{fr fr':List Addr}{f c':Addr}{q:Str}{params:Arguments}{body:Expr}{scope:Scope}{cl:List (Str×Addr)}{NL:List Str}{ZL:St}(L:mO h H fr f c' q params body scope cl NL ZL)
  (k:∀ b o,h.get? b=some o->H b=none->b∉fr->h'.get? b=some o)(hf:∀ b o,h.get? b=some o->b∉fr->b∉fr'):mO h' H fr' f c' q params body scope cl NL ZL:=by
 obtain⟨pm,ctv,e⟩:=L.fn;have kc:∀ x a,cl.lookup x=some a->∀ v,h.IsCell a v->h'.IsCell a v:=λx a hx v ⟨o,ho,hd⟩=>⟨o,k a o ho (L.cell x a hx).2.1 (L.cell x a hx).2.2,hd⟩;refine⟨⟨pm,ctv,k _ _ e L.fH L.ff⟩,L.fH,hf _ _ e L.ff,L.code,L.inj,λx a hx=>?_,λi x v h1 h2=>?_,L.len⟩
 ·obtain⟨⟨v,hv⟩,h1,h2⟩:=L.cell x a hx;obtain⟨o,ho,_⟩:=id hv;exact⟨⟨v,kc x a hx v hv⟩,h1,hf a o ho h2⟩
 ·obtain⟨a,u,hx,r,hc⟩:=L.val i x v h1 h2;exact⟨a,u,hx,r,kc x a hx _ hc⟩
structure uP (scope:Scope)(cl:List (Str×Addr))(NL:List Str):Prop where
 kind:scope.kind=.function
 co:scope.isCoroutine=false
 gen:scope.isGenerator=false
 cell:∀ x∈scope.names,x.2≠.cell
 has:∀ x,scope.names.lookup x=some .free->∃ a,cl.lookup x=some a
 nl:∀ x∈NL,scope.names.lookup x=some .free
def pP (X:Cx)(q:Str)(scope:Scope)(f c':Addr)(cl:List (Str×Addr))(s:Shared)(H:Hp)(NL:List Str)(E:XK):Cx where
 prog:=X.prog
 w:=X.w
 K:=X.K
 mg:=X.mg
 base:=X.base
 A:=X.A.deeper (envX q scope s.heap.objs.size f (.ref c') cl)
 N:=NL
 s₀:=s
 H₀:=H
 env:=envX q scope s.heap.objs.size f (.ref c') cl
 outer:=X.stack
 stack:=envX q scope s.heap.objs.size f (.ref c') cl::X.stack
 ex:=[]
 fn:=λ_=>false
 calm:=true
 pn:=[]
 xe:=λe s'=>wpAny (model X.prog X.w) (X.A.deeper (envX q scope s.heap.objs.size f (.ref c') cl)) (leaving (envX q scope s.heap.objs.size f (.ref c') cl) e) (λ_ s''=>CXE X.prog X.w X.stack H s E e s'') (λe' s''=>CXE X.prog X.w X.stack H s E e' s'') s'
section
variable {X:Cx}{q:Str}{scope:Scope}{f c':Addr}{cl:List (Str×Addr)}{H:Hp}{s:Shared}{NL:List Str}{E:XK}
theorem aPk:(pP X q scope f c' cl s H NL E).Body E:=⟨rfl,rfl,rfl,rfl⟩
theorem aEw {pins:xPn}{Z ZL:St}{k:Nat}{params:Arguments}{body:Expr}{te:TE}{Q:VK}(I:Inv X pins Z H s)(L:mO s.heap H (frs X.stack) f c' q params body scope cl NL ZL)(S:uP scope cl NL)(hr:cL (k+1) X.A)
  (hba:∀ pm ctv,bindArgs (kla_fn "<lambda>" q params body scope cl pm (.ref c') ctv) ⟨[],[]⟩=pure [])(hb:PE (pP X q scope f c' cl s H NL E) body te)(hq:te ZL H Q) :
  codeAny (model X.prog X.w) X.A (.call (.ref f) ⟨[],[]⟩) (CR (CXE X.prog X.w) X.stack X.prog X.w H s Q E) s:=by
 obtain⟨pm,ctv,ho⟩:=L.fn;obtain⟨⟨oc,vs,t,e1,e2,e3⟩,_,_⟩:=(show cU X.prog X.w H s.heap c' (.ext (eU c' q)) from I.hok c' _ L.code)
 refine kla_callFunE hr.depth ho rfl S.co S.gen rfl ⟨c',oc,vs,t,rfl,e1,e2,e3⟩ ?_;rw[hba];refine xAe (xHl S.cell (by intro y hy; simp at hy) (λh₁ hns hsb=>?_) S.kind);have hk:∀ b o,s.heap.get? b=some o->h₁.get? b=some o:=λb o e=>hsb.extBut b o (xAz (xAm e)) (xAf _ e);refine⟨I.nolimit.keeps hk,?_⟩;have kc:∀ a v,s.heap.IsCell a v->h₁.IsCell a v:=λa v ⟨o,h1,h2⟩=>⟨o,hk a o h1,h2⟩
 have J:Inv (pP X q scope f c' cl s H NL E) [] ZL H { s with heap:=h₁,toks:=s.toks+([]:List (Str×Value)).length }:=by
  refine⟨⟨I.ok.mod,S.kind,rfl,rfl,xAi _,L.inj,λx hx=>?_,λx c z _=>xBg z (by show ¬ false=true; decide),λ_=>hr.hd,Around.frames_deeper I.ok.frames,.inr ⟨rfl,rfl⟩,λb z=>xBg (show b∈([]:List Addr) from z) (by simp),I.bs,xAr I.ok.bsz I.sz,
   λb _ _ z=>xBg (show b∈([]:List Addr) from z) (by simp),λb z=>xBg (show b∈([]:List Addr) from z) (by simp),I.stack,I.stkFree⟩,
   rfl,I.bare,Un.kept hk,⟨_,hns,λi x v h1 h2 h3=>?_⟩,λx c e=>?_,I.hok.fresh (xAi _),λx c e=>(L.cell x c e).2.1,λp hp=>xBg (show p∈([]:xPn) from hp) (by simp),I.hok.kept hk,L.len⟩
  ·have hx:scope.names.lookup x=some .cell\/scope.names.lookup x=some .free:=hx;rcases hx with hx | hx
   ·exact xBg rfl (S.cell _ (PySem.mem_of_lookup hx))
   ·exact S.has x hx
  ·obtain⟨a,u,hx,r,hc⟩:=L.val i x v h1 h2;exact⟨u,r,.inr ⟨.inr (S.nl x (xAu h1)),a,hx,kc a _ hc⟩⟩
  ·obtain⟨⟨v,hv⟩,_⟩:=L.cell x c e;exact⟨v,kc c v hv⟩
 show codeAny _ _ (.expr body (envX q scope s.heap.objs.size f (.ref c') cl)) _ _;refine kla_codeExpr (xCr (hb [] _ ZL H Q J hq) (λv s' ⟨x,H',J',r,q'⟩=>?_) λe s' h=>h);exact⟨x,H',J'.os,J'.bare,J'.base,J'.hok,r,q'⟩
end
section
variable {P:Program}{w:World}{K:Frag}{mg:xSO}{base:Heap}
theorem aDj {CX:CXT}{x qual:Str}{st:Stmt}{f:Addr}{fd:FuncData}{N ps:List Str}{k:Nat}(F:Fun K x qual st f fd)(S:aQ N ps (aB st)){A:Around}{outer:List Env}{s:Shared}{H:Hp}{args:Args}{us:List Value}{vs:List V}{Q:VK}{E:XK}
  (hr:cL (k+1) A)(e0:rB P w K mg base A outer s H)(hb:BindsTo s fd args (ps.zip us))(hl:vs.length=ps.length)(r:bZ vs us)
  (hbody:∀ cdv,cL k (A.deeper (envOfC qual (aB st) s.heap.objs.size f cdv))->∃ t,PSs (iC CX P w K mg base N qual (aB st) f cdv A outer s H E) (aI st) t/\t { nx:=λ_ H'=>Q .non H',rt:=Q } (start N vs) H) :
  codeAny (model P w) A (.call (.ref f) args) (CR CX outer P w H s Q E) s:=by
 obtain⟨oc,od,kV,doc,pm,an,cdv,ct,osl,rfl,lk,hcd⟩:=F.ex;have KX:K.In s.heap:=e0.mod.kin.keeps λb o e=>(e0.bs b o e).1;have lim:s.heap.NoLimit:=e0.mod.nolimit.keeps λb o e=>(e0.bs b o e).1
 have hkind:∀ y∈ps.zip us,(aB st).names.lookup y.1=some .local\/((aB st).names.lookup y.1=some .cell/\((cellsFrom (s.heap.objs.size+1) (aB st).names []).lookup y.1).isSome=true):=λ⟨n,v⟩ hy=>by
  rcases S.par n (xGd hy).1 with q | q
  ·exact .inl q
  ·exact .inr ⟨q,cellsFrom_some _ _ _ (.inl q)⟩
 refine xHf hr.depth (KX _ _ lk) rfl S.co S.gen rfl (codeRec_of KX hcd) (hb _ _ _ _ ?_);refine xGj S.kind hkind λenv he s1 x=>?_;subst he;refine⟨lim.keeps x.toInCall.keep,xJu ?_⟩;obtain⟨t,ht,hq⟩:=hbody cdv (hr.deeper _);have I:Inv (iC CX P w K mg base N qual (aB st) f cdv A outer s H E) [] (start N vs) H s1:=qU S hr.hd e0 hl r x;refine xCr (ht [] s1 (start N vs) H _ I hq) (λfl s' hs=>?_) λe s' hs=>hs
 have fin:∀ {Z':St}{H':Hp}{v:V}{u:Value},Inv (iC CX P w K mg base N qual (aB st) f cdv A outer s H E) [] Z' H' s'->cJ v u->Q v H'->CE outer P w H s Q u s':=
  λ{Z' H' v u} J rv q=>⟨v,H',J.os,J.bare,J.base,J.hok,rv,q⟩
 cases fl with
 | ret u=>obtain⟨v,Z',H',J,rv,q⟩:=hs; exact fin J rv q
 | next=>obtain⟨Z',H',J,q⟩:=hs; exact fin (v:=V.non) (u:=Value.none) J rfl q
 | brk=>obtain⟨_,_,_,q⟩:=hs; exact False.elim q
 | cont=>obtain⟨_,_,_,q⟩:=hs; exact False.elim q
end
abbrev NT:List Str:=["_law_deed","_law_e"]
abbrev cxT (X:Cx)(sc:Scope)(ft:Addr)(cdv:Value)(A:Around)(outer:List Env)(s:Shared)(H:Hp)(pn:xPn)(E:xVP):Cx:=
 ((iC CX0 X.prog X.w X.K X.mg X.base NT "_law_tried" sc ft cdv A outer s H E0).nox).pinned pn E
def aPo (st:Stmt):Prop:=∃ p1 p2 p3 p4 p5 p6 p7 p8 p9 p10 p11 p12 j,aI st =
 [.Try [.Expr (.Call (.Name "_law_deed" p1) [] [] p2) p3] [.ExceptHandler (some (.Name "WardError" p4)) (some "_law_e") [.Return (some (.Call (.Name "_law_word" p5) [.Name "_law_e" p6] [] p7)) p8] p9] [] [] p10,.Return (some (.Constant (.str "") j p11)) p12]
inductive aBn (word:Addr->Option Str)(vs:List V)(H:Hp)(Q:VK)(x3_:XK):Prop
 | mk (e:_)(C:_)(x:_)(h0_:vs=[.ref e])(h1_:aFl H e C)(h2_:word C=some x)(h3_:∀ H',aO H H'->Q (.str x) H')
structure aFj (X:Cx)(st:Stmt)(ft:Addr)(fdt:FuncData)(W fw:Addr)(fdw:FuncData)(word:Addr->Option Str):Prop where
 fn:Fun X.K "_law_tried" "_law_tried" st ft fdt
 sc:aQ NT ["_law_deed"] (aB st)
 is:aPo st
 b:aW X.K fdt ["_law_deed"] []
 m:X.mg "_law_tried"=some (.ref ft)
 mW:X.mg "WardError"=some (.ref W)
 mw:X.mg "_law_word"=some (.ref fw)
 kw:keepIn X.K (.ref fw)=true
 bw:aW X.K fdw ["_law_e"] []
 ok:aBc X.prog X.w X.K X.mg X.base 1 fw fdw ["_law_e"] (aBn word)
 k0:(aB st).names.lookup ("_law_deed" : Str)=some .local
 k1:(aB st).names.lookup ("_law_e" : Str)=some .local
 k2:(aB st).names.lookup ("WardError" : Str)=some .globalImplicit
 k3:(aB st).names.lookup ("_law_word" : Str)=some .globalImplicit
 wk:∀ C x,word C=some x->exmOne X.K (.ref C) (.ref W)=some true
inductive ExW (word:Addr->Option Str)(Q:VK)(cls:Value)(H:Hp):Prop
 | mk (C:Addr)(x:Str)(h1:cls=.ref C)(h2:word C=some x)(q:∀ H',aO H H'->Q (.str x) H')
def iS (word:Addr->Option Str)(Q:VK):XK:=λcls _ H=>ExW word Q cls H
section
variable {X:Cx}
theorem tK {Y:Cx}{x:Str}{p pos:Pos}{i:Nat}{f:Addr}{H₁:Hp}{R:VK->Prop}{Ew:XK}(hN:Y.N[i]?=some x)(hv:Y.env.scope.names.lookup x=some .local)(hpass:gF (CXE Y.prog Y.w) Y Ew)
  (run:∀ pins s Z Q,Inv Y pins Z H₁ s->R Q->FnAt f s.heap/\codeAny (model Y.prog Y.w) Y.A (.call (.ref f) ⟨[],[]⟩) (CR (CXE Y.prog Y.w) Y.stack Y.prog Y.w H₁ s Q Ew) s)
  (hd:(x==("__debug__" : Str))=false:=by decide)(hcd:(x==("__classdict__" : Str))=false:=by decide) :
  PE Y (.Call (.Name x p) [] [] pos) (λZ H Q=>H=H₁/\Z[i]?=some (some (.ref f))/\R Q):=by
 intro pins s Z H Q I h;obtain⟨rfl,he,hq⟩:=h;refine xCl (thn (qG hN (.inl hv) hd hcd pins s Z H (λv H'=>v=.ref f/\H'=H) I ⟨_,he,rfl,rfl⟩) λu s1 h1=>?_);obtain⟨v,H',I1,r1,rfl,rfl⟩:=h1;cases r1;obtain⟨fa,hc⟩:=run pins s1 Z Q I1 hq;refine callWith_F0 fa (xFc (xDl hc λr s' hq'=>?_));cases r with
 | error e=>exact hpass pins Z H' s1 e s' I1 hq'
 | ok fl=>
  cases fl with
  | ret u=>exact I1.after hq'
  | next=>exact False.elim hq'
  | brk=>exact False.elim hq'
  | cont=>exact False.elim hq'
structure aMv (scope:Scope)(NL:List Str):Prop where
 kind:scope.kind=.function
 co:scope.isCoroutine=false
 gen:scope.isGenerator=false
 cell:∀ x∈scope.names,x.2≠.cell
 nl:∀ x∈NL,scope.names.lookup x=some .free
inductive aIp (P:Addr)(pos:Pos)(q:Str)(word:Addr->Option Str)(js:List Nat)(te:XK->TE)(Z:St)(H:Hp)(Q:VK):Prop
 | mk (ps:_)(h0_:H P=some (.tbl ps))(h1_:TriplesOk ps.toList)(h2_:codeAmong pos ps.toList=none)(h3_:∀ c' H1,H c'=none->c'≠P->H1=upd (upd H P (.tbl (ps++#[rawInt pos.line,rawInt pos.col,.ref c']))) c' (.ext (eU c' q))->te (iS word Q) (cE 0 js Z) H1 (λ_ H2=>Q (.str "") H2))
theorem aJz {st:Stmt}{ft W fw c P:Addr}{fdt fdw:FuncData}{word:Addr->Option Str}{params:Arguments}{body:Expr}{scope:Scope}{lpos p pos:Pos}{NL:List Str}{js:List Nat}{te:XK->TE}{k:Nat}
  (T:aFj X st ft fdt W fw fdw word)(hfn:∀ x,X.fn x=true)(hc:X.calm=true)(hr:cL (k+3) X.A)(hg:Gl X "_law_tried")(hcode:X.env.code=.ref c)(hcd:codeHdIn X.K c P=true)(bm:jT X.mg X.base)
  (S:aMv scope NL)(B:gI X scope NL 0 js)(hdef:defaultsOf params X.env=([],[]))(hba:∀ cl pm c' ctv,bindArgs (kla_fn "<lambda>" (X.env.qual++"<lambda>") params body scope cl pm (.ref c') ctv) ⟨[],[]⟩=pure [])
  (hb:∀ (Ew:XK) cdv A outer s H pn E f c' s' H',cL k (pP (cxT X (aB st) ft cdv A outer s H pn E) (X.env.qual++"<lambda>") scope f c' (dE scope X.env) s' H' NL Ew).A ->
   PE (pP (cxT X (aB st) ft cdv A outer s H pn E) (X.env.qual++"<lambda>") scope f c' (dE scope X.env) s' H' NL Ew) body (te Ew)) :
  PE X (.Call (.Name "_law_tried" p) [.Lambda params body scope lpos] [] pos) (aIp P lpos (X.env.qual++"<lambda>") word js te):=by
 intro pins s Z H Q I h;obtain⟨ps,hP,ht,hnf,hte⟩:=h;refine xCl (gS I hg T.m ?_);refine callWith_K (h₀:=X.base) I.ok.mod.kin T.fn.kp ?_ (bY rfl) rfl;rw[bY rfl];show wpAny _ _ (spliced ((false,eval (.Lambda params body scope lpos) X.env)::backTo pos (starEach [] X.env))) _ _ s;refine xDd (aAi I hcode hcd bm hP ht hnf hdef B.cel λf c' pm ctv s1 I1 hc0 hcP hcf hcs hold hfo=>?_);refine xEw ⟨I1.kIn,?_⟩;generalize hH1:upd (upd H P (.tbl (ps++#[rawInt lpos.line,rawInt lpos.col,.ref c']))) c' (.ext (eU c' (X.env.qual++"<lambda>")))=H1 at I1;have hq:=hte c' H1 hc0 hcP hH1.symm;have hcl:∀ n∈cV scope,∃ a,X.env.cells.lookup n=some a:=λn hn=>I.ok.has n (B.cel n hn);have cl1:∀ x a,(dE scope X.env).lookup x=some a->X.env.cells.lookup x=some a:=iJ (cV scope) [] hcl λx a e=>by simp at e
 have hfree:∀ x,scope.names.lookup x=some .free->x∈cV scope:=λx e=>xBc.mpr ⟨(x,.free),xCc.mpr ⟨PySem.mem_of_lookup e,by simp⟩,rfl⟩;have h1none:∀ b,H b=none->b≠P->b≠c'->H1 b=none:=λb n h1 h2=>by rw[<- hH1,aG h2,aG h1]; exact n
 have hPs:P<s.heap.objs.size:=I.hok.lt hP;have hsf:s.heap.objs.size<=f:=xAr hcs (xDw hcf)
 have stkLt:∀ b∈frs X.stack,b<s.heap.objs.size:=λb hb=>by
  obtain⟨_,o,ho,_⟩:=I.stack.mem hb;exact xAm ho
 have hcell:∀ x a,X.env.cells.lookup x=some a->a<s.heap.objs.size/\a≠P/\a≠c'/\a∉frs X.stack:=λx a e=>by
  obtain⟨v,hv⟩:=I.cell x a e;have la:=hv.lt;refine⟨la,λz=>?_,xAz (xAq la hcs),λz=>?_⟩
  ·have:=I.freeC x a e
   rw[z,hP] at this;cases this
  ·rcases xAo.mp (I.stkSub a z) with z | z
   ·exact I.cne x a e z
   ·obtain⟨_,o,ho,_⟩:=I.ok.funs.mem z;exact xBg (xAq (xAm ho) (I.ok.cab x a (hfn x) e)) (xCm _)
 have L1:mO s1.heap H1 (frs X.stack) f c' (X.env.qual++"<lambda>") params body scope (dE scope X.env) NL (cE 0 js Z):=by
  refine⟨⟨pm,ctv,hfo⟩,h1none f (I.hok.fresh hsf) (xEj (xAq hPs hsf)) (xEj hcf),λz=>?_,by rw[<- hH1,aD],λx y a e1 e2=>I.ok.inj x y a (cl1 x a e1) (cl1 y a e2),λx a e=>?_,λi x v e1 e2=>?_,?_⟩
  ·exact xBg (xAq (stkLt f z) hsf) (xCm _)
  ·have e':=cl1 x a e;obtain⟨la,n1,n2,n3⟩:=hcell x a e';obtain⟨v,o,ho,hd⟩:=I.cell x a e';exact⟨⟨v,o,hold a o n1 ho,hd⟩,h1none a (I.freeC x a e') n1 n2,n3⟩
  ·unfold cE at e2;rw[xEk,xEs,xAg] at e2;cases hj:js[i]? with
   | none=>rw[hj] at e2; cases e2
   | some j=>
    rw[hj] at e2;have e2:some ((Z[j]?).join)=some (some v):=e2
    have e3:Z[j]?=some (some v):=by
     cases z:Z[j]? with
     | none=>rw[z] at e2; cases e2
     | some y=>rw[z] at e2; cases y with
      | none=>cases e2
      | some y=>cases e2; rfl
    have e4:X.N[j]?=some x:=by rw[B.at' i j hj,xFd]; exact e1
    obtain⟨hfr,_⟩:=B.fre i x (xCa _) e1;have kx:=B.cel x hfr;obtain⟨m,hm,hl⟩:=I.loc;obtain⟨u,r,l⟩:=hl j x v e4 e3 (by rcases kx with z | z; exact .inr (.inl z); exact .inr (.inr z));rcases l with⟨kk,_⟩ | ⟨kk,a,ea,o,ho,hd⟩
    ·rcases kx with k' | k' <;> rw[kk] at k' <;> cases k'
    ·obtain⟨a',ha'⟩:=gU (env:=X.env) (cV scope) [] x (.inl hfr)
     have:=cl1 x a' ha'
     rw[ea] at this;cases this;exact⟨a,u,ha',r,o,hold a o (hcell x a ea).2.1 ho,hd⟩
  ·unfold cE;rw[xEk,xEs,xAa,B.len,xFd]
 have SL:uP scope (dE scope X.env) NL:=⟨S.kind,S.co,S.gen,S.cell,λx e=>gU (env:=X.env) (cV scope) [] x (.inl (hfree x e)),S.nl⟩;have hr1:cL (k+2+1) X.A:=hr
 have bt:BindsTo s1 fdt ⟨[.ref f],[]⟩ ((["_law_deed"]:List Str).zip [.ref f]):=by
  have:=T.b s1 [.ref f] I1.kIn rfl
  exact this
 refine xFc (xDl (aDj (CX:=CX0) (E:=E0) (Q:=Q) (vs:=[.ref f]) T.fn T.sc hr1 I1.env0 bt rfl (.cons rfl .nil) λcdv hr2=>?_) λr s' hq'=>?_)
 ·obtain⟨p1,p2,p3,p4,p5,p6,p7,p8,p9,p10,p11,p12,j,hbod⟩:=T.is;rw[hbod];have rw1:nW 1 (X.A.deeper (envOfC "_law_tried" (aB st) s1.heap.objs.size ft cdv)):=⟨by have:=hr2.dp; omega,by have:=hr2.un; omega⟩
  let Y:Cx:=(iC CX0 X.prog X.w X.K X.mg X.base NT "_law_tried" (aB st) ft cdv X.A X.stack s1 H1 E0).nox
  have run:∀ pn E,∀ (pl:xPn) (s2:Shared) (Z2:St) (Q':VK),Inv (Y.pinned pn E) pl Z2 H1 s2->te (iS word Q) (cE 0 js Z) H1 Q' ->
    FnAt f s2.heap/\codeAny (model X.prog X.w) Y.A (.call (.ref f) ⟨[],[]⟩) (CR (CXE X.prog X.w) Y.stack X.prog X.w H1 s2 Q' (iS word Q)) s2:=by
   intro pn E pl s2 Z2 Q' J hR
   have L2':=L1.stay (h':=s2.heap) (fr':=frs Y.stack) (λb o e n hb=>J.base.keep b o e n hb (by show b∉([]:List Addr); simp)) (λb o e hb z=>by
    rcases xAo.mp (show b∈s1.heap.objs.size::frs X.stack from z) with z | z
    ·exact xBg (xAm e) (by rw[z]; exact xCm _)
    ·exact hb z)
   obtain⟨pm',ctv',ho'⟩:=L2'.fn;exact⟨⟨_,_,_,_,ho'⟩,aEw (X:=Y.pinned pn E) (k:=k) J L2' SL (hr2.mono (by omega)) (λpm ctv=>hba _ pm c' ctv) (hb _ _ _ _ _ _ _ _ _ _ _ _ (cL.deeper (hr2.mono (by omega)) _)) hR⟩
  have try1:=aJw (X:=Y) (x:="WardError") (n:="_law_e") (W:=W) (np:=p4) (hpos:=p9) (pos:=p10) (i:=1) (iS word Q) ⟨rfl,rfl⟩ rfl T.sc.nd rfl T.k1 T.k2 T.mW
   (λpn E hp=>aL (cW (pos:=p3) (tK (Y:=Y.pinned pn E) (x:="_law_deed") (p:=p1) (pos:=p2) (i:=0) (f:=f) (H₁:=H1) (R:=λQ'=>te (iS word Q) (cE 0 js Z) H1 Q') rfl T.k0 hp (run pn E)) rfl))
   (λe pn=>aL (bO (pos:=p8) (zP (X:=Y.caught e pn) (x:="_law_word") (p:=p5) (pos:=p7) T.ok ⟨rw1.dp,rw1.un⟩ T.k3 T.mw T.kw T.bw (pac (qG (X:=Y.caught e pn) (x:="_law_e") (pos:=p6) (i:=1) rfl (.inl T.k1)) aH))))
  refine⟨_,PSs.nox (X:=iC CX0 X.prog X.w X.K X.mg X.base NT "_law_tried" (aB st) ft cdv X.A X.stack s1 H1 E0) (aK try1 (aL (bO aS))),⟨rfl,rfl,hq⟩,?_⟩
  ·intro cls H2 ⟨C,x,e1,e2,e3⟩;refine⟨C,e1,T.wk C x e2,λe Z1 hl he=>⟨_,?_,e,C,x,rfl,aD,e2,λH3 sm=>e3 H3 λb o z=>sm b o (by rw[aG (aF z he)]; exact z)⟩⟩;have hl2:Z1.length=2:=hl;exact xFj (by omega)
 ·cases r with
  | error e=>exact False.elim hq'
  | ok fl=>
   cases fl with
   | ret u=>exact I1.after hq'
   | next=>exact False.elim hq'
   | brk=>exact False.elim hq'
   | cont=>exact False.elim hq'
end
theorem aHf {P:Program}{w:World}{K:Frag}{mg mb:xSO}{CX:CXT}{k:Nat}{fa a:Addr}{fd:FuncData}{x:Str}{sp:Sp}{s₁:Shared}{vs:List Value}{ns:List Int}{tabs:List (Addr×Addr)}
  (KX:K.In s₁.heap)(hns:s₁.heap.Ns mainGlobals mg)(hb:s₁.heap.Ns builtinsNs mb)(hbb:∀ x:Str,x≠"__name__" -> mb x=bootBuiltins x)(hlim:s₁.heap.NoLimit)(hg:s₁.gens=#[])
  (htab:∀ q∈tabs,codeHdIn K q.1 q.2=true/\K.lookup q.2=none/\s₁.heap.get? q.2=some (tabObj #[]))
  (hbm:∃ bm ob,mg "__builtins__" = some (.ref bm)/\bm≠builtinsNs/\s₁.heap.get? bm=some ob/\ob.cls=.type "module" /\ ob.dict=some builtinsNs/\ob.data=.plain)
  (ha:s₁.heap.get? a=some { cls:=.type "list",data:=.seq vs.toArray })(hi:IntsAre vs ns)(hl:ns.length<=sizeLine)(hr:cL k callerA)
  (F:∀ base:Heap,K.In base->base.Ns mainGlobals mg->jT mg base->aY P w K mg base CX k fa fd [x] sp)(hbind:∀ (s:Shared) (u:Value),BindsTo s fd ⟨[u],[]⟩ [(x,u)])
  (hsp:∀ H:Hp,(∀ q∈tabs,H q.2=some (.tbl #[]))->SqL K H a (ns.map V.int)->sp [.ref a] H (λv _=>v=.bl true) λ_ _ _=>False)
  (hCX:∀ H e s',CX [] H s₁ (λ_ _ _=>False) e s'->False) :
  codeAny (model P w) callerA (.call (.ref fa) ⟨[.ref a],[]⟩) (λr s'=>r=.ok (.ret (.bool true))/\OldK s₁.heap s'.heap/\s'.os=s₁.os/\AllBare s'.gens) s₁:=by
 have rv:=vC hi;have lenV:=hi.length
 have core:∀ H:Hp,SqL K H a (ns.map V.int)->HOk P w H s₁.heap->(∀ q∈tabs,H q.2=some (.tbl #[]))->(∀ b u,H b=some u->(∃ q∈tabs,b=q.2)\/(b=a/\K.lookup a=none/\∃ o ys,u=.frz o (.lst ys))) ->
   codeAny (model P w) callerA (.call (.ref fa) ⟨[.ref a],[]⟩) (λr s'=>r=.ok (.ret (.bool true))/\OldK s₁.heap s'.heap/\s'.os=s₁.os/\AllBare s'.gens) s₁:=by
  intro H hS hok hT hA
  -- what is tracked is the script or a table
  have noA:∀ {b:Addr}{o:Obj},s₁.heap.get? b=some o->(∀ ws,o.data≠.fields ws)->(∀ ws n,o.data≠.seq ws n)->H b=none:=λ{b o} e d1 d2=>by
   cases z:H b with
   | none=>rfl
   | some u=>
    rcases hA b u z with⟨q,hq,rfl⟩ | ⟨rfl,_⟩
    ·have:=(htab q hq).2.2
     rw[e] at this;cases this;exact xBg rfl (d1 #[])
    ·rw[ha] at e;cases e;exact xBg rfl (d2 vs.toArray 0)
  have nsK:∀ {b:Addr}{m:xSO},s₁.heap.Ns b m->(xS s₁.heap H).Ns b m:=λ{b m} ⟨o,es,ep,e,d,r⟩=>⟨o,es,ep,tY e (noA e (λws z=>by rw[d] at z; cases z) λws n z=>by rw[d] at z; cases z),d,r⟩
  have hKb:K.In (xS s₁.heap H):=λb o e=>tY (KX b o e) (by
   cases z:H b with
   | none=>rfl
   | some u=>
    rcases hA b u z with⟨q,hq,rfl⟩ | ⟨rfl,hk,_⟩
    ·rw[(htab q hq).2.1] at e; cases e
    ·rw[hk] at e; cases e)
  have hM:Mod K mg (xS s₁.heap H):=⟨hKb,nsK hns,⟨mb,nsK hb,hbb⟩,let ⟨mc,h1,h2⟩:=hlim; ⟨mc,nsK h1,h2⟩⟩
  have hB:jT mg (xS s₁.heap H):=by
   obtain⟨bm,ob,b1,b2,b3,b4,b5,b6⟩:=hbm;exact⟨bm,ob,b1,b2,tY b3 (noA b3 (λws z=>by rw[b6] at z; cases z) λws n z=>by rw[b6] at z; cases z),b4,b5,b6⟩
  have e0:rB P w K mg (xS s₁.heap H) callerA [] s₁ H:=⟨rfl,hM,λb o e=>aOr e,Nat.le_of_eq (aHk _ _),trivial,λb hb=>xBg (show b∈([]:List Addr) from hb) (by simp),hok,.of_eq hg⟩
  refine xDl ((F _ hKb (nsK hns) hB).run callerA [] s₁ H ⟨[.ref a],[]⟩ [.ref a] [.ref a] _ _ hr e0 (hbind s₁ (.ref a)) (.cons rfl .nil) (hsp H hT hS)) λr s' h=>?_;cases r with
  | error e=>exact (hCX H e s' h).elim
  | ok fl=>
   cases fl with
   | next=>exact False.elim h
   | brk=>exact False.elim h
   | cont=>exact False.elim h
   | ret u=>
    obtain⟨v,H',os,bare,un,hok',r',q⟩:=h;have q':v=.bl true:=q;subst q';obtain rfl:u=Value.bool true:=r';refine⟨rfl,⟨λb o e=>?_,λb o e=>un.there b o e (by simp)⟩,os,bare⟩;cases z:H b with
    | none=>exact .inl (un.keep b o e z (by intro y; exact xBg (show b∈([]:List Addr) from y) (by simp)) (by simp))
    | some u=>
     rcases hA b u z with⟨q,hq,rfl⟩ | ⟨_,_,ob,ys,rfl⟩
     ·obtain⟨hc,_,hP⟩:=htab q hq;obtain⟨more,z2⟩:=un.tbls q.2 #[] (hT q hq);have e2:s'.heap.get? q.2=some { cls:=.none,data:=.fields (#[]++more) }:=hok' q.2 _ z2;rw[hP] at e;cases e;exact .inr (.inl ⟨((codeHd_of_K KX hc).tab hP).isCodeTable,rfl,#[],more,rfl,e2⟩)
     ·have z2:=un.frzs b ob _ z;obtain⟨e1,_⟩:=hok b _ z;obtain⟨e2,_⟩:=hok' b _ z2;rw[e] at e1;cases e1;exact .inl e2
 have aT:∀ q∈tabs,q.2≠a:=λq hq z=>by
  have:=(htab q hq).2.2
  rw[z,ha] at this;cases this
 cases hk:K.lookup a with
 | some o=>
  have e:=KX a o hk;rw[ha] at e;cases e;refine core (λb=>if b∈tabs.map (·.2) then some (.tbl #[]) else none) (.inr ⟨_,vs.toArray,_,hk,rfl,rfl,rfl,by rw[xAw,lenV]; exact hl,by simpa using rv⟩) (λb u z=>?_) (λq hq=>xBe (xHp hq)) λb u z=>?_
  ·by_cases hb:b∈tabs.map (·.2)
   ·have z':=(xBe hb).symm.trans z;cases z';obtain⟨q,hq,rfl⟩:=xBc.mp hb;exact (htab q hq).2.2
   ·have z':=(xAy hb).symm.trans z;cases z'
  ·by_cases hb:b∈tabs.map (·.2)
   ·obtain⟨q,hq,rfl⟩:=xBc.mp hb;exact .inl ⟨q,hq,rfl⟩
   ·have z':=(xAy hb).symm.trans z;cases z'
 | none=>
  refine core (λb=>if b∈tabs.map (·.2) then some (.tbl #[]) else if b=a then some (.frz { cls:=.type "list",data:=.seq vs.toArray } (.lst (ns.map V.int))) else none) ?_ (λb u z=>?_) (λq hq=>xBe (xHp hq)) λb u z=>?_
  ·refine .inl (.inr ⟨{ cls:=.type "list",data:=.seq vs.toArray },?_⟩)
   have na:a∉tabs.map (·.2):=λz=>by
    obtain⟨q,hq,e⟩:=xBc.mp z;exact aT q hq e
   exact (xAy na).trans (xBe rfl)
  ·by_cases hb:b∈tabs.map (·.2)
   ·have z':=(xBe hb).symm.trans z;cases z';obtain⟨q,hq,rfl⟩:=xBc.mp hb;exact (htab q hq).2.2
   ·have z':=(xAy hb).symm.trans z
    by_cases hba:b=a
    ·have z'':=(xBe hba).symm.trans z';cases z'';subst hba;exact⟨ha,by rw[xAa]; exact hl,vs,_,rv,ha⟩
    ·have z'':=(xAy hba).symm.trans z';cases z''
  ·by_cases hb:b∈tabs.map (·.2)
   ·obtain⟨q,hq,rfl⟩:=xBc.mp hb;exact .inl ⟨q,hq,rfl⟩
   ·have z':=(xAy hb).symm.trans z
    by_cases hba:b=a
    ·have z'':=(xBe hba).symm.trans z';cases z'';exact .inr ⟨hba,hk,_,_,rfl⟩
    ·have z'':=(xAy hba).symm.trans z';cases z''
theorem walk_ofT {l:OpenLaw}{n k:Nat}{q:Program}{loose:List Str}{XP:(Str->Option Value)->Heap->Prop}{YP:World->Heap->Prop}{d:DefRec}{K:Params->Frag}{sp:World->Sp}{x:Str}(tabs:List (Addr×Addr))
  (hn:l.most=some n)(hn2:n<=sizeLine)(hdf:d.params.defaults=[])(hr:cL k callerA)
  (hY:∀ (w:World) (h:Heap),YP w h->(K w.params).In h/\∀ p∈tabs,h.get? p.2=some (tabObj #[]))
  (hK:∀ (w:World),∀ p∈tabs,codeHdIn (K w.params) p.1 p.2=true/\(K w.params).lookup p.2=none)
  (F:∀ (w:World) (mg:xSO) (fa:Addr) (h:Heap),(K w.params).In h->h.Ns mainGlobals mg->mg d.name=some (.ref fa) ->
   ∃ fd:FuncData,(∀ (s:Shared) (u:Value),BindsTo s fd ⟨[u],[]⟩ [(x,u)]) /\
    ∀ base:Heap,(K w.params).In base->base.Ns mainGlobals mg->jT mg base->aY l.prog w (K w.params) mg base CX0 k fa fd [x] (sp w))
  (hsp:∀ (w:World) (H:Hp) (a:Addr) (ns:List Int),ns.length<=n->(∀ p∈tabs,H p.2=some (.tbl #[]))->SqL (K w.params) H a (ns.map V.int)->sp w [.ref a] H (λv _=>v=.bl true) λ_ _ _=>False) :
  WalkO q loose XP YP l.row.toRowW d [] (λf vs=>PySem.call f vs):=by
 refine Att.attach_call hn hdf λw s₀ s₁ mg mb fa o pm cd doc a vs ns G Y ho hd hcd hmg hobj hints hlen hg=>?_;obtain⟨KX,hts⟩:=hY w _ Y;obtain⟨fd,hb,hF⟩:=F w mg fa _ KX G.T.g hmg;exact aHf (tabs:=tabs) KX G.T.g G.T.b G.T.builtins G.T.nolimit hg (λp hp=>⟨(hK w p hp).1,(hK w p hp).2,hts p hp⟩) G.T.bmain hobj hints (xAr hlen hn2) hr hF hb (λH hT hS=>hsp w H a ns hlen hT hS) λH e s' z=>z
section
variable {X:Cx}
theorem iQ:∀ {ss:List Str}{us:List Value},bZ (ss.map V.str) us->StrsAre us ss
 | [],_,r=>by rw[xHh] at r; cases r; exact .nil
 | x::ss,_,r=>by
  rw[xCd] at r;cases r with
  | cons r1 r2=>
   obtain⟨t,rfl⟩:=r1;exact .cons _ _ (iQ r2)
theorem jN:∀ {us:List Value}{ss:List Str},StrsAre us ss->bZ (ss.map V.str) us
 | _,_,.nil=>.nil
 | _,_,.cons _ t r=>.cons ⟨t,rfl⟩ (jN r)
inductive aPr (K:xAd)(xs:List V)(H:Hp)(Q:VK):Prop
 | mk (a:Addr)(ss:List Str)(h0_:xs=[.ref a])(h1_:SqL K H a (ss.map V.str))(h2_:ss.length<64)(h3_:∀ (p:Addr) (ss':List Str),H p=none->ss'.Perm ss->sortedS ss'=true->Q (.ref p) (upd H p (.lst (ss'.map V.str))))
theorem kT:CallR X (.builtin "sorted") (aPr X.K):=by
 intro pins s Z H xs us Q I r h;obtain⟨a,ss,rfl,hs,h64,q⟩:=h;obtain⟨u,rfl,rx⟩:=iG r;cases rx;obtain⟨its,rv,pl,hz⟩:=I.list hs;have hl:its.length=ss.length:=by rw[<- rv.length,xAa]
 refine sorted_strs pl.isList (iQ rv) (by omega) λout ss' a1 a2 a3=>?_;obtain⟨e,he⟩:=sortedAll_at s.heap its out;have hn:H (s.heap.objs.size+1)=none:=I.hok.fresh (xEr _);refine⟨.ref (s.heap.objs.size+1),_,I.laid (t':=s.toks) (λb o z=>sortedAll_old z) (xEr _) ?_,rfl,q _ ss' hn a2 a3⟩;have hl':ss'.length=ss.length:=a2.length_eq;exact⟨by rw[xAa,hl',sizeLine_eq]; omega,out.toList,e,jN a1,he⟩
def aWu:V->Hp->VK->Prop:=λx H Q=>∃ z,x=.str z/\z.length<=sizeLine/\Q (.str z) H
theorem aRk {e:Expr}{te:TE}{pos:Pos}(he:PE X e te):PE X (.FormattedValue e (-1) none pos) (tUn aWu te):=by
 intro pins s Z H Q I h;refine FormattedValue_plain (thn (he pins s Z H _ I h) λv s1 ⟨x,H1,I1,r1,z,e1,hz,q⟩=>?_);subst e1;obtain⟨t,rfl⟩:=r1;exact formatField_str (λt' tk=>⟨.str z,H1,I1.tok tk,⟨_,rfl⟩,q⟩) hz
def aDx:List TE->Str->TE
 | [],out=>λ_ H Q=>out.length<=sizeLine/\Q (.str out) H
 | t::r,out=>λZ H Q=>t Z H λx H1=>∃ y,x=.str y/\(out++y).length<=sizeLine/\aDx r (out++y) Z H1 Q
def PJ (X:Cx)(ps:List (Sem Value))(ts:List TE):Prop:=
 ∀ (out:Str) (pins:xPn) (s:Shared) (Z:St) (H:Hp) (Q:VK),Inv X pins Z H s->aDx ts out Z H Q->wpAny (model X.prog X.w) X.A (joinParts out ps) (EP X pins Z Q) X.xe s
theorem aJx:PJ X [] []:=λout pins s Z H Q I ⟨hz,q⟩=>joinParts_nil ⟨.str out,H,I.tok _,⟨_,rfl⟩,q⟩ hz
theorem oZ {e:Expr}{te:TE}{ps:List (Sem Value)}{ts:List TE}(he:PE X e te)(hr:PJ X ps ts):PJ X (eval e X.env::ps) (te::ts):=by
 intro out pins s Z H Q I h;refine joinParts_cons (thn (he pins s Z H _ I h) λv s1 ⟨x,H1,I1,r1,y,e1,hz,q⟩=>?_);subst e1;obtain⟨t,rfl⟩:=r1;exact⟨hz,hr _ pins s1 Z H1 Q I1 q⟩
theorem zN {a b c:Expr}{ta tb tc:TE}{pos:Pos}(ha:PE X a ta)(hb:PE X b tb)(hc:PE X c tc):PE X (.JoinedStr [a,b,c] pos) (aDx [ta,tb,tc] Str.empty):=by
 intro pins s Z H Q I h;exact JoinedStr_many ((oZ ha (oZ hb (oZ hc aJx))) Str.empty pins s Z H Q I h)
end
def Ite (K:Frag)(a:Addr):It:=
 ⟨λi H=>∃ xs x,SqL K H a xs/\xs[i]?=some x,λi H y H'=>∃ (t:Addr) (x:V),H t=none/\y=.ref t/\H'=upd H t (.tup [.int i,x])/\∀ xs,SqL K H a xs->xs[i]?=some x,λi H=>∃ xs,SqL K H a xs/\xs.length<=i⟩
theorem aFr {P:Program}{w:World}{K:Frag}{elts:List Expr}{x1:Nat}{tpos:Pos}(a e it:Addr)(hne:e≠it) :
  aAy P w K (.Tuple elts x1 tpos) (Ite K a) [e,it] e (λi h=>(∃ old,IsEnum h e it i old)/\h.IsListIter it a i) where
 mem:=by simp
 obj:=λi h st b hb=>by
  obtain⟨⟨old,h1⟩,o,h2,c,d⟩:=st;rcases xAo.mp hb with rfl | hb
  ·exact⟨_,h1,λv z=>by cases z⟩
  ·have e':b=it:=by simpa using hb
   subst e';exact⟨o,h2,λv z=>by rw[d] at z; cases z⟩
 keep:=λi h h' st k=>by
  obtain⟨⟨old,h1⟩,h2⟩:=st;exact⟨⟨old,k e (by simp) _ h1⟩,h2.at λo z=>k it (by simp) o z⟩
 item:=by
  intro X hP hw hK hc i pins s Z H E I hf st hg;subst hP hw hK;obtain⟨xs,x,hq,hx⟩:=hg;obtain⟨its,rv,p,hz⟩:=I.list hq;obtain⟨u,hu,ru⟩:=rv.get hx;obtain⟨⟨old,he⟩,hit⟩:=st;have fe:=hf e (by simp);have fi:=hf it (by simp);refine wpAny_pyNext_enum_item he hit p.isList (x:=u) (by simpa using hu) hne λh1 eo hit1 htup hsz hk=>⟨.ref s.heap.objs.size,rfl,wpAny_letOwnedTupleGo_enum eo λh2 en sb=>?_⟩;have hn:H s.heap.objs.size=none:=I.hok.fresh (xAi _);have nes:e≠s.heap.objs.size:=xAz (xAm he);have kp:∀ b o,b≠e->b≠it->s.heap.get? b=some o->h2.get? b=some o:=λb o n1 n2 z=>(sb.2 b n1).trans (hk b o n1 n2 z);have nH:∀ b v,H b=some v->b≠e/\b≠it:=λb v z=>⟨λy=>(by rw[y,fe.1] at z; cases z),λy=>(by rw[y,fi.1] at z; cases z)⟩;have nS:∀ b v,H b=some v->b≠s.heap.objs.size:=λb v z=>aF z hn
  have I2:Inv X pins Z (upd H s.heap.objs.size (.tup [.int i,x])) { s with heap:=h2,toks:=s.toks+1 }:=by
   refine I.step (g':=s.gens) (d':=s.drawn) (ch:=[e,it]) (λb hb=>?_) (λb o _ _ hc z _=>kp b o (λy=>hc (by simp[y])) (λy=>hc (by simp[y])) z) (λb o _ _ hc z _=>⟨o.slots,kp b o (λy=>hc (by simp[y])) (λy=>hc (by simp[y])) z⟩)
    (λb o _ z n=>by rw[aG (xAz (xAm z))]; exact n) (λb o hc z=>⟨o,kp b o (λy=>hc (by simp[y])) (λy=>hc (by simp[y])) z⟩) (λb ys z=>by rw[aG (nS b _ z)]; exact z) (λb o v z=>by rw[aG (nS b _ z)]; exact z)
    (λb ps z=>⟨#[],by rw[aG (nS b _ z),z]; simp⟩) (λm hm=>?_) (λb v z=>?_) I.bare
   ·rcases xAo.mp hb with rfl | hb
    ·exact⟨fe.2.2.2.1,fe.2.1,fe.2.2.2.2.1,fe.2.2.2.2.2⟩
    ·have e':b=it:=by simpa using hb
     subst e';exact⟨fi.2.2.2.1,fi.2.1,fi.2.2.2.2.1,fi.2.2.2.2.2⟩
   ·obtain⟨o,es,ep,ho,r⟩:=hm;exact⟨o,es,ep,kp _ o (Ne.symm fe.2.1) (Ne.symm fi.2.1) ho,r⟩
   ·by_cases hb:b=s.heap.objs.size
    ·subst hb;rw[aD] at z;cases z;exact⟨by show 2<=sizeLine; decide,[.int i s.toks,u],.cons ⟨_,rfl⟩ (.cons ru .nil),⟨_,(sb.2 _ (Ne.symm nes)).trans htup,rfl,_,rfl⟩⟩
    ·rw[aG hb] at z;refine (I.hok b v z).stay (λc y hc q=>kp c y ?_ ?_ q) (λc q=>by rw[aG (nS c _ q)]; exact q) λc ys q=>by rw[aG (nS c _ q)]; exact q
     ·rcases hc with rfl | hc
      ·exact (nH c v z).1
      ·exact (nH c _ hc).1
     ·rcases hc with rfl | hc
      ·exact (nH c v z).2
      ·exact (nH c _ hc).2
  refine⟨.ref s.heap.objs.size,_,I2,rfl,⟨s.heap.objs.size,x,hn,rfl,rfl,λys hy=>by rw[I.list_inj hy hq]; exact hx⟩,⟨⟨u,en⟩,?_⟩,λb hb=>?_⟩
  ·obtain⟨o,z,c,d⟩:=hit1;exact⟨o,(sb.2 it (Ne.symm hne)).trans z,c,d⟩
  ·rw[aG ?_]
   ·exact (hf b hb).1
   ·rcases xAo.mp hb with rfl | hb
    ·exact nes
    ·have e':b=it:=by simpa using hb
     subst e';obtain⟨o,z,_⟩:=hit;exact xAz (xAm z)
 done:=by
  intro X hP hw hK hc i pins s Z H E I hf st hg;subst hP hw hK;obtain⟨xs,hq,hlen⟩:=hg;obtain⟨its,rv,p,hz⟩:=I.list hq;obtain⟨⟨old,he⟩,hit⟩:=st;have fi:=hf it (by simp);have hl:=rv.length
  have hn:its.toArray[i]?=none:=by
   rw[xFr];exact xCe.mpr (by omega)
  exact wpAny_pyNext_enum_end (I.ok.hd hc) he hit p.isList hn λh' ext=>⟨rfl,I.turned (t':=s.toks) (λb o hb z=>ext b o hb z) fi.1 fi.2.1 fi.2.2.2.1 fi.2.2.2.2.1 fi.2.2.2.2.2⟩
 self:=λ_ i s _ _ ⟨⟨_,h1⟩,_⟩ h=>wpAny_pyIter_enum h1 h
section
variable {X:Cx}{elts:List Expr}{x1:Nat}{tpos:Pos}
inductive aXy (K:Frag)(vs:List V)(H1:Hp)(R:It->Hp->Prop):Prop
 | mk (a:Addr)(h1:vs=[.ref a])(h2:∃ xs,SqL K H1 a xs)(r:R (Ite K a) H1)
def aUm (K:Frag)(ta:TA):TI:=λZ H R=>ta Z H λvs H1=>aXy K vs H1 R
theorem iZ {l:Expr}{ta:TA}{p pos:Pos}(hg:Gl X "enumerate")(hm:X.mg "enumerate" = none)(ha:PA X [l] ta)(hs:oA l=false:=by rfl):PI X (.Tuple elts x1 tpos) (.Call (.Name "enumerate" p) [l] [] pos) (aUm X.K ta):=by
 intro pins s Z H R I h;have he:starEach [l] X.env=[(false,eval l X.env)]:=bY hs;refine Call_ (lQ I hg hm Bo.enumerate (xDc (thn (ha pos pins s Z H _ I h) λus s1 ⟨vs,H1,I1,r1,a,e1,⟨xs,hq⟩,q⟩=>?_) he rfl));subst e1;obtain⟨u,rfl,rx⟩:=iG r1;cases rx;obtain⟨its,rv,pl,hz⟩:=I1.list hq;refine call_enumerate_list pl.isList λh' h1 h2 h3 h4=>?_;have I2:Inv X pins Z H1 { s1 with heap:=h' }:=I1.kept (t':=s1.toks) h4;refine wpAny_pyIter_enum h1 ⟨s1.heap.objs.size+1,[s1.heap.objs.size+1,s1.heap.objs.size],_,Ite X.K a,H1,rfl,I2,aFr a _ _ (Nat.succ_ne_self _),⟨⟨_,h1⟩,h2⟩,λb hb=>?_,q⟩
 have hge:s1.heap.objs.size<=b:=by
  rcases xAo.mp hb with rfl | hb
  ·exact xEr _
  ·have e':b=s1.heap.objs.size:=by simpa using hb
   rw[e'];exact xAi _
 exact I1.fpOk hge (I1.hok.fresh hge)
theorem pT {K:Frag}{a D:Addr}{xs:List V}{g:TG}{tc:TT}{te:TE}{R:Hp->Prop}{Z:St}{H:Hp}(Pv:Nat->St->Hp->Prop)(h0:Pv 0 Z H)
  (hl:∀ i Z H,i<=xs.length->Pv i Z H->SqL K H a xs)
  (hs:∀ i x Z H t,xs[i]?=some x->Pv i Z H->H t=none->g (.ref t) Z (upd H t (.tup [.int i,x])) λZ2 H2=>tc Z2 H2 λb H3=>if b=true then te Z2 H3 λy H4=>∃ ys,H4 D=some (.lst ys)/\ys.length<sizeLine/\Pv (i+1) Z2 (upd H4 D (.lst (ys++[y]))) else Pv (i+1) Z2 H3)
  (hd:∀ Z H,Pv xs.length Z H->R H):yL (Ite K a) D g tc te R Z H:=by
 refine⟨λi m Z H=>m=xs.length-i/\i<=xs.length/\Pv i Z H,⟨xs.length,by simp,xCa _,h0⟩,?_⟩;rintro i m Z H ⟨rfl,hi,p⟩;have q:=hl i Z H hi p
 by_cases hlt:i<xs.length
 ·refine .inr ⟨⟨xs,xs[i],q,by simp[hlt]⟩,Pv (i+1),λZ' H' p'=>⟨xs.length-(i+1),by omega,rfl,hlt,p'⟩,λx H' y=>?_⟩;obtain⟨t,v,ht,rfl,rfl,hv⟩:=y;exact hs i v Z H t (hv xs q) p ht
 ·have e:i=xs.length:=by omega
  subst e;exact .inl ⟨⟨xs,q,xAi _⟩,hd Z H p⟩
theorem pJ {K:Frag}{a:Addr}{xs:List V}{g:TG}{tb:TS}{D:rV}{Z:St}{H:Hp}(Pv:Nat->St->Hp->Prop)(h0:Pv 0 Z H)(hl:∀ i Z H,i<=xs.length->Pv i Z H->SqL K H a xs)
  (hs:∀ i x Z H t,xs[i]?=some x->Pv i Z H->H t=none->g (.ref t) Z (upd H t (.tup [.int i,x])) λZ2 H2=>tb { D with nx:=Pv (i+1),ct:=Pv (i+1),bk:=D.nx } Z2 H2)(hd:∀ Z H,Pv xs.length Z H->D.nx Z H) :
  ∃ W:Nat->Nat->St->Hp->Prop,(∃ m,W 0 m Z H)/\∀ i m Z H,W i m Z H ->
   ((Ite K a).stop i H/\D.nx Z H)\/((Ite K a).go i H/\∃ N:St->Hp->Prop,(∀ Z' H',N Z' H'->∃ m',m'<m/\W (i+1) m' Z' H')/\∀ x H',(Ite K a).yld i H x H'->g x Z H' λZ2 H2=>tb { D with nx:=N,ct:=N,bk:=D.nx } Z2 H2):=by
 refine⟨λi m Z H=>m=xs.length-i/\i<=xs.length/\Pv i Z H,⟨xs.length,by simp,xCa _,h0⟩,?_⟩;rintro i m Z H ⟨rfl,hi,p⟩;have q:=hl i Z H hi p
 by_cases hlt:i<xs.length
 ·refine .inr ⟨⟨xs,xs[i],q,by simp[hlt]⟩,Pv (i+1),λZ' H' p'=>⟨xs.length-(i+1),by omega,rfl,hlt,p'⟩,λx H' y=>?_⟩;obtain⟨t,v,ht,rfl,rfl,hv⟩:=y;exact hs i v Z H t (hv xs q) p ht
 ·have e:i=xs.length:=by omega
  subst e;exact .inl ⟨⟨xs,q,xAi _⟩,hd Z H p⟩
end
section
variable {X:Cx}
theorem aOw {k:Key}{v:Value}(h:rK k v=true):cJ (kV k) v:=by
 rcases dL h with⟨i,t,rfl,rfl⟩ | ⟨x,t,rfl,rfl⟩
 ·exact⟨t,rfl⟩
 ·exact⟨t,rfl⟩
theorem wC:∀ {kvs:List (Key×V)}{vs:List (Key×Value)}{us:List Value},KV kvs vs->us.length=vs.length->(∀ (j:Nat) (u:Value),us[j]?=some u->∃ k x,vs[j]?=some (k,x)/\rK k u=true)->bZ (kvs.map λkv=>kV kv.1) us
 | [],_,us,r,hl,_=>by
  unfold KV at r;cases r
  have:us=[]:=xGw.mp hl
  subst this;exact .nil
 | p::kvs,_,us,r,hl,h=>by
  unfold KV at r;cases r with
  | @cons a b as bs h1 h2=>
   cases us with
   | nil=>simp at hl
   | cons u us=>
    refine .cons ?_ (wC (vs:=bs) h2 (by simpa using hl) λj v e=>?_)
    ·obtain⟨k,x,e1,e2⟩:=h 0 u rfl;have e1:some b=some (k,x):=e1;cases e1;show cJ (kV p.1) u;rw[show p.1=k from h1.1]
     exact aOw e2
    ·obtain⟨k,x,e1,e2⟩:=h (j+1) v (by simpa using e);exact⟨k,x,by simpa using e1,e2⟩
theorem oW {α:Type} [DecidableEq α]:∀ (xs ys:List α),xs.length=ys.length->((List.range xs.length).all λj=>decide (xs[j]?=ys[j]?))=decide (xs=ys):=by
 intro xs ys hl;rw[xEi,xBn,xDa];constructor
 ·intro h;refine xFm λi=>?_
  by_cases hi:i<xs.length
  ·exact xAp (h i (xDm.mpr hi))
  ·rw[xCe.mpr (by omega),xCe.mpr (by omega)]
 ·rintro rfl j _;exact xAv rfl
theorem vJ {A:Around}{s:Shared}{ss ts:List Str}{us ws:List Value}(r:bZ (ss.map V.str) us)(r':bZ (ts.map V.str) ws)(hl:ss.length=ts.length) :
  ∀ j (h1:j<us.toArray.size) (h2:j<ws.toArray.size),SeqAt.EqAt A s us.toArray[j] ws.toArray[j] (decide (ss[j]?=ts[j]?)):=by
 intro j h1 h2;have l1:=r.length;have l2:=r'.length;rw[xAa] at l1 l2;have g1:j<ss.length:=by rw[l1]; simpa using h1
 have g2:j<ts.length:=by rw[l2]; simpa using h2
 obtain⟨u,e1,q1⟩:=r.get (i:=j) (x:=.str ss[j]) (by simp[g1]);obtain⟨v,e2,q2⟩:=r'.get (i:=j) (x:=.str ts[j]) (by simp[g2]);obtain⟨t,rfl⟩:=q1;obtain⟨t',rfl⟩:=q2
 have f1:us.toArray[j]=.str ss[j] t:=by
  have:us[j]?=some us.toArray[j]:=by simp
  rw[e1] at this;exact (xBp this).symm
 have f2:ws.toArray[j]=.str ts[j] t':=by
  have:ws[j]?=some ws.toArray[j]:=by simp
  rw[e2] at this;exact (xBp this).symm
 rw[f1,f2];have eb:decide (ss[j]?=ts[j]?)=decide (ss[j]=ts[j]):=by simp[g1,g2]
 rw[eb];intro prog w E Q hq;exact xIe hq
inductive aTt (K:Frag)(neg:Bool)(x:V)(y:V)(H:Hp)(Q:VK):Prop
 | mk (a b:Addr)(ss ts:List Str)(h0_:x=.ref a)(h1_:y=.ref b)(h2_:SqL K H a (ss.map V.str))(h3_:SqL K H b (ts.map V.str))(h4_:Q (.bl (if neg then !decide (ss=ts) else decide (ss=ts))) H)
theorem xJ (hu:X.A.units<cLine):OpR X (compareOp .NotEq) (aTt X.K true):=by
 intro pins s Z H x y v u Q I rx ry h;obtain⟨a,b,ss,ts,rfl,rfl,ha,hb,q⟩:=h;cases rx;cases ry;obtain⟨us,r1,p1,_⟩:=I.list ha;obtain⟨ws,r2,p2,_⟩:=I.list hb;have l1:=r1.length;have l2:=r2.length;rw[xAa] at l1 l2
 by_cases hl:ss.length=ts.length
 ·refine SeqAt.RcNeAt.lists p1.isList p2.isList (by simp; omega) hu (vJ r1 r2 hl) X.prog X.w X.xe _ ⟨.bl (!decide (ss=ts)),H,I,?_,q⟩;rw[xAw,<- l1,oW ss ts hl];rfl
 ·refine SeqAt.RcNeAt.lists_lengths p1.isList p2.isList (by simp; omega) hu X.prog X.w X.xe _ ⟨.bl (!decide (ss=ts)),H,I,?_,q⟩;rw[xBj λz=>hl (by rw[z])];rfl
end
section
variable {X:Cx}
inductive aPs (xs:List V)(H:Hp)(Q:VK):Prop
 | mk (d:Addr)(kvs:List (Key×V))(ss:List Str)(h0_:xs=[.ref d])(h1_:H d=some (.dK kvs))(h2_:kvs.map (λkv=>kV kv.1)=ss.map V.str)(h3_:ss.length<64)(h4_:∀ (p:Addr) (ss':List Str),H p=none->ss'.Perm ss->sortedS ss'=true->Q (.ref p) (upd H p (.lst (ss'.map V.str))))
theorem iN (hc:X.calm=true):CallR X (.builtin "sorted") aPs:=by
 intro pins s Z H xs us Q I r h;obtain⟨d,kvs,ss,rfl,hd,hks,h64,q⟩:=h;obtain⟨u,rfl,rx⟩:=iG r;cases rx;obtain⟨hz,lo,vs,rel,dd⟩:=aMh I.hok hd;obtain⟨ep,hat⟩:=dd.dictAt;have hl:kvs.length=vs.length:=Paired.length rel
 have hls:kvs.length=ss.length:=by
  have:=congrArg List.length hks
  simpa using this
 refine call_function_entry kind_sorted plain_sorted entry_sorted (args_sorted1 _) ?_;unfold Builtin.«sorted»;refine xAb (m:=checkCount "sorted" 1 1 _) (xAe ?_);refine xAb (kdu_collect (A:=X.A.in1) (kdl_dict (knd:=dA X.prog X.w) (kvs:=vs) (ep:=ep) lo) (I.ok.hd hc) hat (by omega) λh' tk acc hk hacc=>?_);have hal:acc.toList.length=vs.length:=by rw[xBo]; exact hacc.1
 have rv:bZ (ss.map V.str) acc.toList:=by
  rw[<- hks];exact wC rel hal λj v e=>hacc.2 j v (by rw[<- xBx]; exact e)
 have hS:=iQ rv;refine xAb (xJb ?_ (by rw[hal]; omega));have hoL:(h'.push (seqObj "list" acc.toList.toArray 0)).get? h'.objs.size=some (seqObj "list" acc.toList.toArray 0):=xAk _ rfl;refine xAb (xCu (xCh slot_list_sort ⟨_,hoL,rfl⟩ entry_list_sort (list_sort_treeK strKind_oneLt hoL hS.keysOf (λv₁ v₂ rest e=>keyKind_strs (by rw[<- e]; exact hS)) (by rw[hal]; omega) λst' a1 a2=>⟨_,rfl,?_⟩) (args_list_sort _)));obtain⟨ss',b1,b2,b3⟩:=sorted_out_str hS a1 a2;refine xAe ⟨_,rfl,?_⟩;have I1:Inv X pins Z H { s with heap:=h',toks:=tk }:=I.kept (t':=tk) hk;have hn:H h'.objs.size=none:=I1.hok.fresh (xAi _);obtain⟨e,he⟩:=sortedHeap_at (vs:=acc.toList) (out:=(arrOf st').map (·.2)) hoL;refine⟨.ref h'.objs.size,_,I1.laid (t':=tk) (λb o z=>?_) (xAi _) ?_,rfl,q _ ss' hn b2 b3⟩
 ·have hb:b<h'.objs.size:=xAm z;rw[sortedHeap_old (xAz hb) (by rw[size_push']; exact xGt hb)];exact xAf _ z
 ·exact⟨by rw[xAa,b2.length_eq,sizeLine_eq]; omega,_,e,jN b1,he⟩
end
section
variable {X:Cx}{pins:xPn}{Z:St}{H:Hp}{s:Shared}{d:Addr}{kvs:List (Key×V)}
theorem Inv.freeze (I:Inv X pins Z H s)(e:H d=some (.dK kvs)):∃ o,Inv X pins Z (upd H d (.frz o (.dK kvs))) s:=by
 have hO:=I.hok d _ e;obtain⟨o,ho⟩:=hO.ex
 have ne:∀ b u,H b=some u->(∀ k,u≠.dK k)->(upd H d (.frz o (.dK kvs))) b=some u:=λb u z n=>by
  rw[aG (λy=>by rw[y,e] at z; cases z; exact n kvs rfl)];exact z
 refine⟨o,I.step (h':=s.heap) (g':=s.gens) (d':=s.drawn) (t':=s.toks) (ch:=[]) (λb hb=>nomatch hb) (λb u _ _ _ z _=>z) (λb u _ _ _ z _=>⟨u.slots,z⟩)
  (λb u _ _ n=>by rw[aG (λy=>by rw[y,e] at n; cases n)]; exact n) (λb u _ z=>⟨u,z⟩) (λb xs z=>ne b _ z λk y=>by cases y) (λb u v z=>ne b _ z λk y=>by cases y)
  (λb ps z=>⟨#[],by rw[ne b _ z λk y=>by cases y]; simp⟩) (λm hm=>hm) (λb u z=>?_) I.bare⟩
 by_cases hb:b=d
 ·subst hb;rw[aD] at z;cases z;exact⟨ho,hO⟩
 ·rw[aG hb] at z;exact (I.hok b u z).stay (λc y _ q=>q) (λc q=>ne c _ q λk y=>by cases y) λc ys q=>ne c _ q λk y=>by cases y
inductive aXx (v:V)(H':Hp)(Q:VK):Prop
 | mk (d:Addr)(kvs:List (Key×V))(h1:v=.ref d)(h2:H' d=some (.dK kvs))(q:∀ o,Q v (upd H' d (.frz o (.dK kvs))))
def aNj (t:TE):TE:=λZ H Q=>t Z H λv H'=>aXx v H' Q
theorem aGk {e:Expr}{t:TE}(h:PE X e t):PE X e (aNj t):=by
 intro pins s Z H Q I q;refine thn (h pins s Z H _ I q) λv s1 ⟨x,H1,I1,r1,d,kvs,e1,e2,q1⟩=>?_;obtain⟨o,I2⟩:=I1.freeze e2;exact⟨x,_,I2,r1,q1 o⟩
end
section
variable {X:Cx}{tg:Expr}
end
section
variable {X:Cx}
end
section
variable {X:Cx}{pins:xPn}{Z:St}{H:Hp}{s:Shared}
theorem aEx {params:Arguments}{body:Expr}{scope:Scope}{pos:Pos}{c c' P:Addr}{ps:Array Value}{Q:xVP}{E:xVP}(I:Inv X pins Z H s)(hcode:X.env.code=.ref c)(hc:codeHdIn X.K c P=true)(bm:jT X.mg X.base)
  (hP:H P=some (.tbl ps))(ht:TriplesOk ps.toList)(hf:codeAmong pos ps.toList=some (.ref c'))(hdef:defaultsOf params X.env=([],[]))(hfr:∀ n∈cV scope,X.env.kindOf n=some .cell\/X.env.kindOf n=some .free)
  (k:∀ (f:Addr) (pm ctv:Value) (s1:Shared),Inv X pins Z H s1->s.heap.objs.size<=f->(∀ b o,s.heap.get? b=some o->s1.heap.get? b=some o) ->
   s1.heap.get? f=some (kla_obj "<lambda>" (X.env.qual++"<lambda>") params body scope (dE scope X.env) pm c' ctv)->Q (.ref f) s1) :
  wpAny (model X.prog X.w) X.A (eval (.Lambda params body scope pos) X.env) Q E s:=by
 have hcl:closureFor scope X.env=pure (dE scope X.env):=iD λn hn=>I.ok.has n (hfr n hn);obtain⟨b,ob,b1,b2,b3,b4,b5,b6⟩:=bm;have hg:s.heap.Ns mainGlobals X.mg:=I.mod.glob.keeps I.bk;have bP:∀ d o,X.base.get? d=some o->d≠P:=λd o e z=>by have:=(I.bs d o e).2; rw[z,hP] at this; cases this
 have hbG:b≠mainGlobals:=λz=>by
  obtain⟨o,es,ep,e,hd,_⟩:=I.mod.glob;rw[z,e] at b3;cases b3;rw[hd] at b6;cases b6
 have hob:s.heap.get? P=some (tabObj ps):=I.hok P _ hP;refine kla_eval hdef (kla_makeFunctionHit (mg:=X.mg) hcl I.ok.glob hg hcode (codeHd_of_K I.kIn hc) hob ht hf ⟨b,ob,b1,b2,hbG,bP _ _ b3,I.bk _ _ b3,b4,b5,b6⟩ λctv h' tk hx hge=>?_);exact k h'.objs.size _ ctv _ (I.kept (t':=tk) λd o e=>xAf _ (hx d o e)) hge (λd o e=>xAf _ (hx d o e)) (xAk _ rfl)
end
section
variable {X:Cx}
inductive vH (P:Addr)(pos:Pos)(q:Str)(word:Addr->Option Str)(js:List Nat)(te:XK->TE)(Z:St)(H:Hp)(Q:VK):Prop
 | mk (ps:_)(c':Addr)(h0_:H P=some (.tbl ps))(h1_:TriplesOk ps.toList)(h2_:codeAmong pos ps.toList=some (.ref c'))(h3_:H c'=some (.ext (eU c' q)))(h4_:te (iS word Q) (cE 0 js Z) H (λ_ H2=>Q (.str "") H2))
theorem zM {st:Stmt}{ft W fw c P:Addr}{fdt fdw:FuncData}{word:Addr->Option Str}{params:Arguments}{body:Expr}{scope:Scope}{lpos p pos:Pos}{NL:List Str}{js:List Nat}{te:XK->TE}{k:Nat}
  (T:aFj X st ft fdt W fw fdw word)(hfn:∀ x,X.fn x=true)(hc:X.calm=true)(hr:cL (k+3) X.A)(hg:Gl X "_law_tried")(hcode:X.env.code=.ref c)(hcd:codeHdIn X.K c P=true)(bm:jT X.mg X.base)
  (S:aMv scope NL)(B:gI X scope NL 0 js)(hdef:defaultsOf params X.env=([],[]))(hba:∀ cl pm c' ctv,bindArgs (kla_fn "<lambda>" (X.env.qual++"<lambda>") params body scope cl pm (.ref c') ctv) ⟨[],[]⟩=pure [])
  (hb:∀ (Ew:XK) cdv A outer s H pn E f c' s' H',cL k (pP (cxT X (aB st) ft cdv A outer s H pn E) (X.env.qual++"<lambda>") scope f c' (dE scope X.env) s' H' NL Ew).A ->
   PE (pP (cxT X (aB st) ft cdv A outer s H pn E) (X.env.qual++"<lambda>") scope f c' (dE scope X.env) s' H' NL Ew) body (te Ew)) :
  PE X (.Call (.Name "_law_tried" p) [.Lambda params body scope lpos] [] pos) (vH P lpos (X.env.qual++"<lambda>") word js te):=by
 intro pins s Z H Q I h;obtain⟨ps,c',hP,ht,hnf,hcx,hq⟩:=h;refine xCl (gS I hg T.m ?_);refine callWith_K (h₀:=X.base) I.ok.mod.kin T.fn.kp ?_ (bY rfl) rfl;rw[bY rfl];show wpAny _ _ (spliced ((false,eval (.Lambda params body scope lpos) X.env)::backTo pos (starEach [] X.env))) _ _ s;refine xDd (aEx I hcode hcd bm hP ht hnf hdef B.cel λf pm ctv s1 I1 hsf hold hfo=>?_);refine xEw ⟨I1.kIn,?_⟩;obtain⟨H1,hH1⟩:∃ H1,H1=H:=⟨H,rfl⟩;rw[<- hH1] at I1 hq;have hcl:∀ n∈cV scope,∃ a,X.env.cells.lookup n=some a:=λn hn=>I.ok.has n (B.cel n hn);have cl1:∀ x a,(dE scope X.env).lookup x=some a->X.env.cells.lookup x=some a:=iJ (cV scope) [] hcl λx a e=>by simp at e
 have hfree:∀ x,scope.names.lookup x=some .free->x∈cV scope:=λx e=>xBc.mpr ⟨(x,.free),xCc.mpr ⟨PySem.mem_of_lookup e,by simp⟩,rfl⟩;have h1none:∀ b,H b=none->b≠P->b≠c'->H1 b=none:=λb n _ _=>by rw[hH1]; exact n
 have hPs:P<s.heap.objs.size:=I.hok.lt hP
 have stkLt:∀ b∈frs X.stack,b<s.heap.objs.size:=λb hb=>by
  obtain⟨_,o,ho,_⟩:=I.stack.mem hb;exact xAm ho
 have hcell:∀ x a,X.env.cells.lookup x=some a->a<s.heap.objs.size/\a≠P/\a≠c'/\a∉frs X.stack:=λx a e=>by
  obtain⟨v,hv⟩:=I.cell x a e;have la:=hv.lt;refine⟨la,λz=>?_,λz=>(by have:=I.freeC x a e; rw[z,hcx] at this; cases this),λz=>?_⟩
  ·have:=I.freeC x a e
   rw[z,hP] at this;cases this
  ·rcases xAo.mp (I.stkSub a z) with z | z
   ·exact I.cne x a e z
   ·obtain⟨_,o,ho,_⟩:=I.ok.funs.mem z;exact xBg (xAq (xAm ho) (I.ok.cab x a (hfn x) e)) (xCm _)
 have L1:mO s1.heap H1 (frs X.stack) f c' (X.env.qual++"<lambda>") params body scope (dE scope X.env) NL (cE 0 js Z):=by
  refine⟨⟨pm,ctv,hfo⟩,h1none f (I.hok.fresh hsf) (xEj (xAq hPs hsf)) (λz=>by have:=I.hok.fresh hsf; rw[z,hcx] at this; cases this),λz=>?_,by rw[hH1]; exact hcx,λx y a e1 e2=>I.ok.inj x y a (cl1 x a e1) (cl1 y a e2),λx a e=>?_,λi x v e1 e2=>?_,?_⟩
  ·exact xBg (xAq (stkLt f z) hsf) (xCm _)
  ·have e':=cl1 x a e;obtain⟨la,n1,n2,n3⟩:=hcell x a e';obtain⟨v,o,ho,hd⟩:=I.cell x a e';exact⟨⟨v,o,hold a o ho,hd⟩,h1none a (I.freeC x a e') n1 n2,n3⟩
  ·unfold cE at e2;rw[xEk,xEs,xAg] at e2;cases hj:js[i]? with
   | none=>rw[hj] at e2; cases e2
   | some j=>
    rw[hj] at e2;have e2:some ((Z[j]?).join)=some (some v):=e2
    have e3:Z[j]?=some (some v):=by
     cases z:Z[j]? with
     | none=>rw[z] at e2; cases e2
     | some y=>rw[z] at e2; cases y with
      | none=>cases e2
      | some y=>cases e2; rfl
    have e4:X.N[j]?=some x:=by rw[B.at' i j hj,xFd]; exact e1
    obtain⟨hfr,_⟩:=B.fre i x (xCa _) e1;have kx:=B.cel x hfr;obtain⟨m,hm,hl⟩:=I.loc;obtain⟨u,r,l⟩:=hl j x v e4 e3 (by rcases kx with z | z; exact .inr (.inl z); exact .inr (.inr z));rcases l with⟨kk,_⟩ | ⟨kk,a,ea,o,ho,hd⟩
    ·rcases kx with k' | k' <;> rw[kk] at k' <;> cases k'
    ·obtain⟨a',ha'⟩:=gU (env:=X.env) (cV scope) [] x (.inl hfr)
     have:=cl1 x a' ha'
     rw[ea] at this;cases this;exact⟨a,u,ha',r,o,hold a o ho,hd⟩
  ·unfold cE;rw[xEk,xEs,xAa,B.len,xFd]
 have SL:uP scope (dE scope X.env) NL:=⟨S.kind,S.co,S.gen,S.cell,λx e=>gU (env:=X.env) (cV scope) [] x (.inl (hfree x e)),S.nl⟩;have hr1:cL (k+2+1) X.A:=hr
 have bt:BindsTo s1 fdt ⟨[.ref f],[]⟩ ((["_law_deed"]:List Str).zip [.ref f]):=by
  have:=T.b s1 [.ref f] I1.kIn rfl
  exact this
 refine xFc (xDl (aDj (CX:=CX0) (E:=E0) (Q:=Q) (vs:=[.ref f]) T.fn T.sc hr1 I1.env0 bt rfl (.cons rfl .nil) λcdv hr2=>?_) λr s' hq'=>?_)
 ·obtain⟨p1,p2,p3,p4,p5,p6,p7,p8,p9,p10,p11,p12,j,hbod⟩:=T.is;rw[hbod];have rw1:nW 1 (X.A.deeper (envOfC "_law_tried" (aB st) s1.heap.objs.size ft cdv)):=⟨by have:=hr2.dp; omega,by have:=hr2.un; omega⟩
  let Y:Cx:=(iC CX0 X.prog X.w X.K X.mg X.base NT "_law_tried" (aB st) ft cdv X.A X.stack s1 H1 E0).nox
  have run:∀ pn E,∀ (pl:xPn) (s2:Shared) (Z2:St) (Q':VK),Inv (Y.pinned pn E) pl Z2 H1 s2->te (iS word Q) (cE 0 js Z) H1 Q' ->
    FnAt f s2.heap/\codeAny (model X.prog X.w) Y.A (.call (.ref f) ⟨[],[]⟩) (CR (CXE X.prog X.w) Y.stack X.prog X.w H1 s2 Q' (iS word Q)) s2:=by
   intro pn E pl s2 Z2 Q' J hR
   have L2':=L1.stay (h':=s2.heap) (fr':=frs Y.stack) (λb o e n hb=>J.base.keep b o e n hb (by show b∉([]:List Addr); simp)) (λb o e hb z=>by
    rcases xAo.mp (show b∈s1.heap.objs.size::frs X.stack from z) with z | z
    ·exact xBg (xAm e) (by rw[z]; exact xCm _)
    ·exact hb z)
   obtain⟨pm',ctv',ho'⟩:=L2'.fn;exact⟨⟨_,_,_,_,ho'⟩,aEw (X:=Y.pinned pn E) (k:=k) J L2' SL (hr2.mono (by omega)) (λpm ctv=>hba _ pm c' ctv) (hb _ _ _ _ _ _ _ _ _ _ _ _ (cL.deeper (hr2.mono (by omega)) _)) hR⟩
  have try1:=aJw (X:=Y) (x:="WardError") (n:="_law_e") (W:=W) (np:=p4) (hpos:=p9) (pos:=p10) (i:=1) (iS word Q) ⟨rfl,rfl⟩ rfl T.sc.nd rfl T.k1 T.k2 T.mW
   (λpn E hp=>aL (cW (pos:=p3) (tK (Y:=Y.pinned pn E) (x:="_law_deed") (p:=p1) (pos:=p2) (i:=0) (f:=f) (H₁:=H1) (R:=λQ'=>te (iS word Q) (cE 0 js Z) H1 Q') rfl T.k0 hp (run pn E)) rfl))
   (λe pn=>aL (bO (pos:=p8) (zP (X:=Y.caught e pn) (x:="_law_word") (p:=p5) (pos:=p7) T.ok ⟨rw1.dp,rw1.un⟩ T.k3 T.mw T.kw T.bw (pac (qG (X:=Y.caught e pn) (x:="_law_e") (pos:=p6) (i:=1) rfl (.inl T.k1)) aH))))
  refine⟨_,PSs.nox (X:=iC CX0 X.prog X.w X.K X.mg X.base NT "_law_tried" (aB st) ft cdv X.A X.stack s1 H1 E0) (aK try1 (aL (bO aS))),⟨rfl,rfl,hq⟩,?_⟩
  ·intro cls H2 ⟨C,x,e1,e2,e3⟩;refine⟨C,e1,T.wk C x e2,λe Z1 hl he=>⟨_,?_,e,C,x,rfl,aD,e2,λH3 sm=>e3 H3 λb o z=>sm b o (by rw[aG (aF z he)]; exact z)⟩⟩;have hl2:Z1.length=2:=hl;exact xFj (by omega)
 ·cases r with
  | error e=>exact False.elim hq'
  | ok fl=>
   cases fl with
   | ret u=>exact I1.after hq'
   | next=>exact False.elim hq'
   | brk=>exact False.elim hq'
   | cont=>exact False.elim hq'
inductive aDw (P:Addr)(pos:Pos)(q:Str)(word:Addr->Option Str)(js:List Nat)(te:XK->TE)(Z:St)(H:Hp)(Q:VK):Prop
 | made (h:aIp P pos q word js te Z H Q)
 | hit (h:vH P pos q word js te Z H Q)
theorem aGi {st:Stmt}{ft W fw c P:Addr}{fdt fdw:FuncData}{word:Addr->Option Str}{params:Arguments}{body:Expr}{scope:Scope}{lpos p pos:Pos}{NL:List Str}{js:List Nat}{te:XK->TE}{k:Nat}
  (T:aFj X st ft fdt W fw fdw word)(hfn:∀ x,X.fn x=true)(hc:X.calm=true)(hr:cL (k+3) X.A)(hg:Gl X "_law_tried")(hcode:X.env.code=.ref c)(hcd:codeHdIn X.K c P=true)(bm:jT X.mg X.base)
  (S:aMv scope NL)(B:gI X scope NL 0 js)(hdef:defaultsOf params X.env=([],[]))(hba:∀ cl pm c' ctv,bindArgs (kla_fn "<lambda>" (X.env.qual++"<lambda>") params body scope cl pm (.ref c') ctv) ⟨[],[]⟩=pure [])
  (hb:∀ (Ew:XK) cdv A outer s H pn E f c' s' H',cL k (pP (cxT X (aB st) ft cdv A outer s H pn E) (X.env.qual++"<lambda>") scope f c' (dE scope X.env) s' H' NL Ew).A ->
   PE (pP (cxT X (aB st) ft cdv A outer s H pn E) (X.env.qual++"<lambda>") scope f c' (dE scope X.env) s' H' NL Ew) body (te Ew)) :
  PE X (.Call (.Name "_law_tried" p) [.Lambda params body scope lpos] [] pos) (aDw P lpos (X.env.qual++"<lambda>") word js te):=by
 intro pins s Z H Q I h;cases h with
 | made h=>exact aJz T hfn hc hr hg hcode hcd bm S B hdef hba hb pins s Z H Q I h
 | hit h=>exact zM T hfn hc hr hg hcode hcd bm S B hdef hba hb pins s Z H Q I h

end
def unl:List Str->List Str->List Str
 | [],k=>k
 | z::r,k=>unl r (if z∈k then k else k++[z])
theorem sL:∀ (r:List Str) (z:Str) (k:List Str),unl (r++[z]) k=if z∈unl r k then unl r k else unl r k++[z]
 | [],z,k=>rfl
 | y::r,z,k=>sL r z _
theorem wQ:∀ (r k:List Str),(unl r k).length<=k.length+r.length
 | [],k=>xAi _
 | y::r,k=>by
  have h:=wQ r (if y∈k then k else k++[y])
  have h2:(if y∈k then k else k++[y]).length<=k.length+1:=by
   split
   ·exact xEr _
   ·rw[xAj]; exact xAi _
  show (unl r (if y∈k then k else k++[y])).length<=k.length+(r.length+1)
  omega
theorem nd1 (y:Str):[y].Nodup:=xEg.mpr ⟨λh=>(nomatch h),.nil⟩
theorem aDu:∀ (r k:List Str) (z:Str),z∈unl r k↔z∈k\/z∈r
 | [],k,z=>by simp[unl]
 | y::r,k,z=>by
  show z∈unl r _↔_;rw[aDu r]
  by_cases h:y∈k
  ·rw[xBe h,xAo];exact⟨λq=>q.imp id .inr,λq=>q.elim .inl λq=>q.elim (λe=>.inl (e▸h)) .inr⟩
  ·rw[xAy h,xAo,xCp,xBb,or_assoc]
theorem jO:∀ (r k:List Str),k.Nodup->(unl r k).Nodup
 | [],k,h=>h
 | y::r,k,h=>by
  refine jO r _ ?_
  by_cases q:y∈k
  ·rw[xBe q]; exact h
  ·rw[xAy q];exact xIa.mpr ⟨h,nd1 _,λa ha b hb e=>q (by rw[<- xBb.mp hb,<- e]; exact ha)⟩
abbrev kJ (led:Bool):Obj:={ cls:=.type "set",dict:=none,data:=.set #[] 0 (.fresh 0 0 led) }
theorem aDc (t:SetTable)(es:Array (Int×Value))(h:Int)(x:Value):(layNew t es h x).2.1.led=t.led:=by
 unfold layNew;split
 ·dsimp only;unfold SetTable.orStandIn SetTable.put;dsimp only;split <;> (split <;> rfl)
 ·rfl
theorem aLr {mask finger moves:Nat}{led plain:Bool}{hs:Array Int}{r:SetTable×Array Nat}(e:SetTable.laid mask finger moves led plain hs=some r):r.1.led=led/\r.1.plain=plain:=by
 unfold SetTable.laid at e;cases q:SetTable.layClean mask hs with
 | none=>rw[q] at e; cases e
 | some o=>
  rw[q] at e;cases e;exact⟨rfl,rfl⟩
theorem xF {t:SetTable}(es:Array (Int×Value))(n:Nat)(h:t.plain=false):(relayAll t es n).2.1.led=t.led/\(relayAll t es n).2.1.plain=false:=by
 unfold relayAll;cases q:t.relaid (es.map (·.1)) n with
 | none=>exact⟨rfl,rfl⟩
 | some r=>
  have hq:=aLr q;obtain⟨t',order⟩:=r;dsimp only at hq ⊢;split
  ·exact⟨hq.1,hq.2.trans h⟩
  ·exact⟨rfl,rfl⟩
section
variable {prog:Program}{w:World}{A:Around}{E:xVP}{s:Shared}
structure aSn (prog:Program)(w:World)(ss:List Str)(L:Bool)(o:Obj)(es:Array (Int×Value))(ep:Nat)(t:SetTable):Prop where
 ex:o.ExactSet
 da:o.data=.set es ep t
 el:ElemsOf (PySem.strKind prog w) es.toList
 me:∀ z,z∈unl ss []↔∃ e∈es.toList,(PySem.strKind prog w).is z e.2=true
 sz:es.size=(unl ss []).length
 sb:es.size<scanBound
 fi:t.fits es.size=true
 le:t.led=L
 pl:es.size=0\/t.plain=false
def nK (h:Heap)(a:Addr)(prog:Program)(w:World)(ss:List Str)(L:Bool):Prop:=∃ o es ep t,h.get? a=some o/\aSn prog w ss L o es ep t
theorem aEk {h:Heap}{a:Addr}{o:Obj}{es:Array (Int×Value)}{ep:Nat}{t:SetTable}(ho:h.get? a=some o)(hd:o.data=.set es ep t)(es':Array (Int×Value))(t':SetTable) :
  (h.update a (Obj.putSet es' t')).get? a=some { o with data:=.set es' (ep+1) t' }:=by
 have q:=xCf (Obj.putSet es' t') ho (by rw[putSet_of es' t' hd]; rfl);rw[putSet_of es' t' hd] at q;exact q
theorem add_str {a:Addr}{ss:List Str}{L:Bool}{z:Str}{tz:Tok}{Q:Bool->Shared->Prop}(hS:nK s.heap a prog w ss L)(hr:(unl ss []).length+1<scanBound)
  (q:∀ b h',Heap.SameBut a s.heap h'->nK h' a prog w (ss++[z]) L->Q b { s with heap:=h' }):wpAny (model prog w) A (setAddHashed a (.str z tz) ((PySem.strKind prog w).hash z)) Q E s:=by
 obtain⟨o,es,ep,t,ho,S⟩:=hS;have hkey:(PySem.strKind prog w).is z (.str z tz)=true:=xEy z;unfold setAddHashed setAddHashedIn;refine xCu (xAb (xDn ho S.da S.fi ?_));dsimp only;rw[byScan_of rfl S.sb S.el];simp only[↓reduceIte];unfold setAddByScan;refine xAb (xAb (xGp (xAb (wpAny_setScan_of hkey ho S.da S.fi S.el ?_))));cases hf:List.findIdx? (λe=>(PySem.strKind prog w).is z e.2) es.toList with
 | some j=>
  dsimp only;obtain⟨hj,hp,_⟩:=List.findIdx?_eq_some_iff_getElem.mp hf;have hz:z∈unl ss []:=(S.me z).mpr ⟨es.toList[j],xCt hj,hp⟩;have e:unl (ss++[z]) []=unl ss []:=by rw[sL,xBe hz]
  have e2:s={ s with heap:=s.heap }:=by cases s; rfl
  refine xAe (xAe ?_);rw[e2];exact q _ _ (Heap.SameBut.refl a s.heap) ⟨o,es,ep,t,ho,S.ex,S.da,S.el,λy=>by rw[e]; exact S.me y,by rw[e]; exact S.sz,S.sb,S.fi,S.le,S.pl⟩
 | none=>
  dsimp only
  have hz:¬ z∈unl ss []:=λh=>by
   obtain⟨e,he,hp⟩:=(S.me z).mp h;rw[List.findIdx?_eq_none_iff.mp hf e he] at hp;cases hp
  have e:unl (ss++[z]) []=unl ss []++[z]:=by rw[sL,xAy hz]
  have gw:∀ (b:Bool){s₁:Shared}{Q':Unit->Shared->Prop},Q' () s₁->wpAny (model prog w) A (match b with | true=>rule "set.scan.the-table-gave-way" | false=>pure ()) Q' E s₁:=λb s₁ Q' h=>by
   cases b
   ·exact xAe h
   ·exact xGp h
  have lp:=layNew_perm t es ((PySem.strKind prog w).hash z) (.str z tz);have lf:=layNew_fits t es ((PySem.strKind prog w).hash z) (.str z tz);have ll:=aDc t es ((PySem.strKind prog w).hash z) (.str z tz);generalize layNew t es ((PySem.strKind prog w).hash z) (.str z tz)=lay at lp lf ll ⊢;obtain⟨e1,t1,wd,gv⟩:=lay;dsimp only at lp lf ll ⊢;rw[Array.toList_push] at lp;have el1:ElemsOf (PySem.strKind prog w) e1.toList:=(S.el.push hkey rfl).perm lp
  have me1:∀ y,y∈unl (ss++[z]) []↔∃ e∈e1.toList,(PySem.strKind prog w).is y e.2=true:=λy=>by
   have:=mem_push_iff (knd:=PySem.strKind prog w) (S:=λy=>decide (y∈unl ss [])) hkey (λy=>by rw[xDa]; exact S.me y) lp y
   rw[<- this,e,xIp,xDa,xDa,xCp,xBb]
  have sz1:e1.size=(unl (ss++[z]) []).length:=by
   rw[<- xBo,lp.length_eq,xAj,xBo,S.sz,e,xAj];rfl
  have sb1:e1.size<scanBound:=by rw[sz1,e,xAj]; exact hr
  refine xAb (gw _ ?_)
  -- behind the look at the value's hash the table is plain no more
  suffices main:∀ (t2:SetTable) (R:Option Bool->Shared->Prop),t2.led=L->t2.plain=false->t2.fits e1.size=true->(∀ h',Heap.SameBut a s.heap h'->nK h' a prog w (ss++[z]) L->R (some true) { s with heap:=h' })->wpAny (model prog w) A (do
    storeSet a e1 t2
    if (!wd&&t2.tooFull)=true then do
      (match (relayAll t2 e1 (SetTable.grown e1.size)).2.2 with | true=>rule "set.scan.the-table-gave-way" | false=>pure ())
      storeSet a (relayAll t2 e1 (SetTable.grown e1.size)).1 (relayAll t2 e1 (SetTable.grown e1.size)).2.1
      pure (some true)
     else pure (some true)) R E s by
   split
   ·refine xAb ?_;rw[hashByValue_scannable 8 (x:=.str z tz) rfl];refine xAe ?_;exact main _ _ (ll.trans S.le) rfl (SetTable.fits_plain_off lf) λh' sm T=>xAe (q true h' sm T)
   ·rename_i np
    refine xAb (xAe ?_);simp only[↓reduceIte];exact main t1 _ (ll.trans S.le) (by simpa using np) lf λh' sm T=>xAe (q true h' sm T)
  intro t2 R h1 h2 h3 hR;refine xAb (wpAny_storeSet_of ho S.da ?_ (fits_of_scanBound sb1));have g1:=aEk ho S.da e1 t2;have sm1:=xCb s.heap a (Obj.putSet e1 t2);split
  ·have rp:=relayAll_perm t2 e1 (SetTable.grown e1.size);have rf':=relayAll_fits t2 e1 (SetTable.grown e1.size);have rl:=xF e1 (SetTable.grown e1.size) h2;generalize relayAll t2 e1 (SetTable.grown e1.size)=rel at rp rf' rl ⊢;obtain⟨e3,t3,g3⟩:=rel;dsimp only at rp rf' rl ⊢;have sz3:e3.size=e1.size:=by rw[<- xBo,rp.length_eq,xBo]
   refine xAb (gw _ (xAb (wpAny_storeSet_of g1 rfl ?_ (fits_of_scanBound (by rw[sz3]; exact sb1)))));refine xAe (hR _ (sm1.trans (xCb _ a _)) ⟨_,e3,ep+1+1,t3,aEk g1 rfl e3 t3,S.ex,rfl,el1.perm rp,λy=>(me1 y).trans ⟨λ⟨e,he,p⟩=>⟨e,rp.mem_iff.mpr he,p⟩,λ⟨e,he,p⟩=>⟨e,rp.mem_iff.mp he,p⟩⟩,sz3.trans sz1,by rw[sz3]; exact sb1,rf',rl.1.trans h1,.inr rl.2⟩)
  ·exact xAe (hR _ sm1 ⟨_,e1,ep+1,t2,g1,S.ex,rfl,el1,me1,sz1,sb1,h3,h1,.inr h2⟩)
end
theorem oC {α:Type}:∀ (l:List α) (i:Nat) (h:i<l.length),(l[i]::l.eraseIdx i).Perm l
 | a::t,0,_=>.refl _
 | a::t,i+1,h=>by
  have hi:i<t.length:=by simpa using h
  exact (List.Perm.swap _ _ _).trans (List.Perm.cons a (oC t i hi))
section
variable {M:Model}{A:Around}{E:xVP}{s:Shared}{α:Type}
theorem aNd {src:Source}{n:Nat}{Q:Nat->Shared->Prop}(hn:n≠0)(h:∀ i d,i<n->Q i { s with drawn:=d }):wpAny M A (choose src n) Q E s:=
 λ_ _ _=>⟨hn,h _ _ (Nat.mod_lt _ (Nat.pos_of_ne_zero hn))⟩
theorem wG:∀ (n:Nat) (xs:List α) (s:Shared){Q:List α->Shared->Prop},xs.length=n->(∀ ys d,ys.Perm xs->Q ys { s with drawn:=d })->wpAny M A (drawOrder n xs) Q E s
 | 0,xs,s,Q,hl,h=>by
  obtain rfl:=xGw.mp hl
  exact xAe (h [] s.drawn (.refl _))
 | n+1,xs,s,Q,hl,h=>by
  cases xs with
  | nil=>cases hl
  | cons x xs=>
   unfold drawOrder;refine xAb (aNd (by simp) λi d hi=>?_);have e:(x::xs)[i]?=some (x::xs)[i]:=xAh hi;rw[e];dsimp only;refine xAb (wG n ((x::xs).eraseIdx i) { s with drawn:=d } (by rw[xIq hi]; simp at hl ⊢; omega) λys d' hp=>xAe (h _ d' ?_));refine List.Perm.trans (List.Perm.cons _ hp) ?_;exact oC _ i hi
theorem aEm (next:Nat->Nat):∀ (n k:Nat) (left:List α) (out:Array α),left.length=n->(pickOrder.go next n k left out).toList.Perm (out.toList++left)
 | 0,k,left,out,h=>by
  have:left=[]:=xGw.mp h
  subst this;unfold pickOrder.go;rw[xBm]
 | n+1,k,left,out,h=>by
  unfold pickOrder.go;have hi:next k%left.length<left.length:=Nat.mod_lt _ (by omega);rw[xAh hi];dsimp only;refine (aEm next n (k+1) _ _ (by rw[xIq hi]; omega)).trans ?_;rw[Array.toList_push,xFn];exact List.Perm.append_left _ (oC _ _ hi)
theorem aGg (next:Nat->Nat)(xs:Array α):(pickOrder next xs).toList.Perm xs.toList:=by
 have:=aEm next xs.size 0 xs.toList #[] (by simp)
 simpa [pickOrder] using this
end
section
variable {prog:Program}{w:World}
theorem oJ {h h':Heap}{S:Addr}{ss:List Str}{L:Bool}(T:nK h S prog w ss L)(k:∀ o,h.get? S=some o->h'.get? S=some o):nK h' S prog w ss L:=by
 obtain⟨o,es,ep,t,ho,rest⟩:=T;exact⟨o,es,ep,t,k o ho,rest⟩
variable {A:Around}{R:Result->Shared->Prop}{It:Addr}{fp wr:List Addr}{G:Array GenState->Array GenState->Prop}{n:Nat}{Pv:Nat->Value->Prop}{St':Nat->Shared->Prop}
theorem aFv (W:WalksS prog w A.in1 It fp wr G n Pv St'){S:Addr}{L:Bool}(hS:S∉fp){ss:List Str}(hn:ss.length=n)(hb:n+1<scanBound)
  (hv:∀ (i:Nat) v,Pv i v->∃ z t,ss[i]?=some z/\v=.str z t)(k:Nat):∀ (i:Nat) (s:Shared),i+k=n->St' i s->nK s.heap S prog w (ss.take i) L ->
   (∀ s',Moved (S::wr) G s s'->nK s'.heap S prog w ss L->R (.ok (.ret .none)) s')->codeAny (model prog w) A (.builtin "set.update.loop" ⟨[.ref S,.ref It],[]⟩) R s:=by
 have hw:S∉wr:=λq=>hS (W.sub _ q)
 induction k with
 | zero=>
  intro i s hi st T q
  refine xDq F.entry_set_update_loop (by
   rw[Around.under_plainId F.plain_set_update_loop _];refine xAb (W.done s _ _ (by rw[<- hi]; exact st) λs' m=>xAe (q s' (m.mono λb u=>.tail _ u) (oJ ?_ λo e=>m.heap S o hw e)));rw[xDt (by omega)] at T;exact T)
 | succ k ih=>
  intro i s hi st T q
  refine xDq F.entry_set_update_loop (by
   rw[Around.under_plainId F.plain_set_update_loop _];refine xAb (W.item i s _ _ (by omega) st λv s1 pv st1 m=>?_);obtain⟨z,t,hz,rfl⟩:=hv i v pv;have T1:=oJ T λo e=>m.heap S o hw e;have hi':i<ss.length:=(xAc.mp hz).1;have hl:=wQ (ss.take i) [];rw[xAt,xCq] at hl;show wpAny _ A.in1 (holding [Value.str z t] (setAdd S (.str z t))>>=_) _ _ s1;refine xAb (xCu ?_);unfold setAdd;refine xCu (xAb ((PySem.strKind prog w).pyHash (k:=z) (by exact xEy z) ?_));refine add_str (s:={ s1 with toks:=s1.toks+1 }) T1 (by omega) λb h2 sb T3=>?_;rw[show ss.take i++[z]=ss.take (i+1) by rw[xBl,hz]; rfl] at T3;refine xAe ⟨plainId_quiet F.plain_set_update_loop _,ih (i+1) { s1 with heap:=h2,toks:=s1.toks+1 } (by omega) (W.frame _ s1 _ _ st1 (xEr _) λb u o e=>?_) T3 λs3 m3 T4=>q s3 ?_ T4⟩
   ·rw[sb.2 b λu':b=S=>hS (u'▸u)]; exact e
   ·refine Moved.trans W.gtrans ((m.mono λb u=>.tail _ u).then_heap (xEr _) λb o u e=>?_) m3;rw[sb.2 b λu':b=S=>u (u'▸.head _)]; exact e)
end
section
variable {prog:Program}{w:World}{A:Around}{E:xVP}{s:Shared}
theorem aIw {h:Heap}{a:Addr}{led:Bool}(hS:h.get? a=some (kJ led)):nK h a prog w [] led:=
 ⟨_,#[],0,.fresh 0 0 led,hS,⟨rfl,rfl,rfl⟩,rfl,λe he=>(by simp at he),λz=>(by simp[unl]),rfl,by decide,rfl,rfl,.inl rfl⟩
set_option maxHeartbeats 6000000 in
theorem aFu {l S:Addr}{led:Bool}{items:Array Value}{ss:List Str}(hh:A.handled=none)(hl:s.heap.IsList l items)(hS:s.heap.get? S=some (kJ led))(hne:S≠l)(hn:ss.length=items.size)(hb:items.size+1<scanBound)
  (hi:∀ (i:Nat) v,items[i]?=some v->∃ z t,ss[i]?=some z/\v=.str z t){Qr:Fin->Shared->Prop}
  (q:∀ h' tk,nK h' S prog w ss led->(∀ b o,b≠S->s.heap.get? b=some o->h'.get? b=some o)->Qr (.done (.ret .none)) { s with heap:=h',toks:=tk }) :
  wpAny (model prog w) A (Builtin.«set.__init__» ⟨[.ref S,.ref l],[]⟩) Qr E s:=by
 have hl1:=hl;obtain⟨⟨lc,ld,la,lo⟩,hol,hcl,nl,hdl⟩:=hl;simp only at hcl hdl;subst hcl hdl;have f1:=F.sub_list_set;have f2:=F.sub_list_frozenset;have f3:(Value.type "list" == Value.type "dict")=false:=by decide
 unfold Builtin.«set.__init__» noKeywords Builtin.Frozenset.updateFrom;generalize hPI:pyIter=PI
 wp_walk
 subst hPI;refine xEu hl1 (xAb (wpAny_runValue ?_));have lS:l<s.heap.objs.size:=xAm hol;have SS:S<s.heap.objs.size:=xAm hS;have T0:nK s.heap S prog w [] led:=aIw hS;refine aFv ((Walks.list (by simp[hh]) s.heap.objs.size l (xAz lS) items).toS) (S:=S) (by simp[hne,Nat.ne_of_lt SS]) hn hb hi items.size 0 _ (xFd _) ⟨⟨_,xAk _ rfl,rfl,rfl⟩,hl1.push _⟩ (oJ T0 λo e=>xAf _ e) ?_;rintro⟨h',g',d',tk',os'⟩ m T;obtain⟨m1,m2,m3,m4,m5⟩:=m;cases m2;cases m3;cases m4;refine xAe (xAe (q h' tk' T λb o hb e=>m1 b o ?_ (xAf _ e)));simp[hb,Nat.ne_of_lt (Heap.lt_size e)]
abbrev rR (w:World):Bool:=!w.params.followText "set-order"
theorem aJk (a:Value){Q₁:xVP}(h:Q₁ (.ref s.heap.objs.size) { s with heap:=s.heap.push (kJ (rR w)) }) :
  codeAny (model prog w) A (.call (.builtin "set.__new__") ⟨[.type "set",a],[]⟩) (wants Q₁ E) s:=by
 refine codeAny_of_tree ?_;show wpAny _ A.in1 (do checkBuiltinCall "set.__new__" ⟨[.type "set",a],[]⟩; again (.builtin "set.__new__" ⟨[.type "set",a],[]⟩)) _ _ s;refine xAb (xFz (F.newCall_set_1 a) (xAe ⟨plainId_quiet F.plain_set_new _,xDq F.entry_set_new ?_⟩));rw[Around.under_plainId F.plain_set_new _];unfold Builtin.«set.__new__» Builtin.Frozenset.newClass;have hsub:=sub_set_self;obtain⟨hp,g,d,tk,os⟩:=s;dsimp only
 wp_walk
 refine xEm (xAe ?_);dsimp only;simp only[newObj];refine xAb (wpAny_alloc (xAe ?_));exact xAe h
set_option maxHeartbeats 6000000 in
theorem aHv {l:Addr}{items:Array Value}{ss:List Str}{Q:xVP}(hh:A.handled=none)(hl:s.heap.IsList l items)(hn:ss.length=items.size)(hb:items.size+1<scanBound)
  (hi:∀ (i:Nat) v,items[i]?=some v->∃ z t,ss[i]?=some z/\v=.str z t)
  (q:∀ h' tk,nK h' s.heap.objs.size prog w ss (rR w)->(∀ b o,s.heap.get? b=some o->h'.get? b=some o)->Q (.ref s.heap.objs.size) { s with heap:=h',toks:=tk }) :
  wpAny (model prog w) A (call (.type "set") [.ref l]) Q E s:=by
 obtain⟨c,tl,hmro⟩:=F.called_set.mro;have g1:=F.called_set.made;have g2:=F.called_set.sub;have g3:=F.called_set.notType;have g4:=F.called_set.canCreate;have g5:=F.typeCall_set_1 (.ref l);refine xFc (codeAny_of_tree ?_);show wpAny _ _ (callAny (.type "set") _) _ _ _;refine xAe ⟨Code.quiet_builtin _ (by decide +kernel),xDq F.entry_type_call ?_⟩;rw[Around.under_plain (weight_type_call_type "set" [.ref l] []) rfl]
 repeat any_goals first | assumption | wp_step
 refine xDl (aJk (.ref l) (E:=E) (Q₁:=λv s1=>v=.ref s.heap.objs.size/\s1={ s with heap:=s.heap.push (kJ (rR w)) }) ⟨rfl,rfl⟩) λr s1 hr=>?_
 match r,hr with
 | .error _,hr=>exact hr
 | .ok (.ret v),⟨e1,e2⟩=>
  subst e1 e2;have hS:(s.heap.push (kJ (rR w))).get? s.heap.objs.size=some (kJ (rR w)):=xAk _ rfl;have hT:Shared.TypeIs { s with heap:=s.heap.push (kJ (rR w)) } (.ref s.heap.objs.size) "set":=⟨_,hS,rfl⟩;have g6:=F.called_set.init.lookup;have g7:=F.called_set.init.bind (.ref s.heap.objs.size)
  repeat any_goals first | assumption | wp_step
  have lS:l<s.heap.objs.size:=let ⟨_,e,_⟩:=hl; xAm e
  refine xDl (xEx (R:=wants (λv s2=>v=.none/\∃ h' tk,s2={ s with heap:=h',toks:=tk }/\nK h' s.heap.objs.size prog w ss (rR w)/\∀ b o,s.heap.get? b=some o->h'.get? b=some o) E) F.called_set.init.plain F.entry_set_init
   (check_set_init_1 hT (aFu (by simp[hh]) (hl.push _) hS (xEj lS) hn hb hi λh' tk T k=>⟨rfl,h',tk,rfl,T,λb o e=>k b o (xAz (xAm e)) (xAf _ e)⟩))) λr2 s2 hr2=>?_
  match r2,hr2 with
  | .error _,hr2=>exact hr2
  | .ok (.ret v),⟨e1,h',tk,e2,T,k⟩=>
   subst e1 e2
   repeat any_goals first | assumption | wp_step
   exact q h' tk T k
end
theorem mX:Slot "set_iterator" "__next__" "set_iterator.__next__" := Slot.of (n:="__next__") (owner:="set_iterator") (by rw[typeLookup_type,builtinLookup_eq_fast]; kernel_rfl) (by decide +kernel) (by decide +kernel) (by decide +kernel) (.inl (by decide +kernel)) (by rw[isSubtype_type]; kernel_rfl)
theorem aEg:Slot "set_iterator" "__iter__" "set_iterator.__iter__" := Slot.of (n:="__iter__") (owner:="set_iterator") (by rw[typeLookup_type,builtinLookup_eq_fast]; kernel_rfl) (by decide +kernel) (by decide +kernel) (by decide +kernel) (.inl (by decide +kernel)) (by rw[isSubtype_type]; kernel_rfl)
theorem aJg:entryFor table "set_iterator.__next__"=some Builtin.«set_iterator.__next__»:=entryFor_of_tree (by kernel_rfl)
theorem aJi:entryFor table "set_iterator.__iter__" = some Builtin.«dict_keyiterator.__iter__»:=entryFor_alias (id':="dict_keyiterator.__iter__") (by kernel_rfl) rfl (by decide +kernel) (by kernel_rfl)
theorem aFy:entryFor table "set.__iter__" = some Builtin.«frozenset.__iter__»:=entryFor_alias (id':="frozenset.__iter__") (by kernel_rfl) rfl (by decide +kernel) (by kernel_rfl)
theorem yT:Manifest.owners.lookup (String.ofList ['r','o','t','a','r','e','t','i','_','t','e','s'].reverse)=some Manifest.sig_set_iterator:=by kernel_rfl
theorem aJh (a:Value):argsOk "set_iterator.__next__" ⟨[a],[]⟩:=by
 unfold argsOk;rw[signature?_of (id:="set_iterator.__next__") (o:=['r','o','t','a','r','e','t','i','_','t','e','s']) (n:=['_','_','t','x','e','n','_','_']) (by kernel_rfl) yT]
 kernel_rfl
theorem aJj (a:Value):argsOk "set_iterator.__iter__" ⟨[a],[]⟩:=by
 unfold argsOk;rw[signature?_of (id:="set_iterator.__iter__") (o:=['r','o','t','a','r','e','t','i','_','t','e','s']) (n:=['_','_','r','e','t','i','_','_']) (by kernel_rfl) yT]
 kernel_rfl
def SI (h:Heap)(I:Addr)(f:Value)(i:Nat)(S:Addr)(n ep:Nat):Prop:=∃ o,h.get? I=some o/\o.cls=.type "set_iterator" /\ o.data=.fields #[f,.int i 0,.ref S,.int n 0,.int ep 0]
theorem SI.typeIs {s:Shared}{I f i S n ep}(x:SI s.heap I f i S n ep):s.TypeIs (.ref I) "set_iterator":=let ⟨o,ho,hc,_⟩:=x; ⟨o,ho,hc⟩
theorem SI.at {h h':Heap}{I f i S n ep}(x:SI h I f i S n ep)(k:∀ o,h.get? I=some o->h'.get? I=some o):SI h' I f i S n ep:=let ⟨o,ho,r⟩:=x; ⟨o,k o ho,r⟩
section
variable {prog:Program}{w:World}{A:Around}{E:xVP}{s:Shared}
theorem wW {I:Addr}{f i S n ep}{Q:xVP}(x:SI s.heap I f i S n ep)(h:Q (.ref I) s):wpAny (model prog w) A (pyIter (.ref I)) Q E s:=by
 refine xGq x.typeIs aEg (xCh aEg x.typeIs aJi ?_ (aJj _));show wpAny _ _ (ret (.ref I)) _ _ s;exact xAe ⟨_,rfl,"set_iterator",_,x.typeIs,mX.lookup,h⟩
structure oG (h:Heap)(S:Addr)(es:Array (Int×Value))(ep:Nat)(t:SetTable):Prop where
 at':∃ o,h.get? S=some o/\o.data=.set es ep t
 fi:t.fits es.size=true
theorem oG.keep {h h':Heap}{S es ep t}(x:oG h S es ep t)(k:∀ o,h.get? S=some o->h'.get? S=some o):oG h' S es ep t:=let ⟨o,ho,hd⟩:=x.at'; ⟨⟨o,k o ho,hd⟩,x.fi⟩
theorem aFx {I S:Addr}{o:Obj}{f f':Value}{i n ep:Nat}(ho:s.heap.get? I=some o)(hc:o.cls=.type "set_iterator")(hd:o.data=.fields #[f,.int i 0,.ref S,.int n 0,.int ep 0]) :
  SI (s.heap.update I (Obj.mapFields (·.setIfInBounds 1 (rawInt ((i:Int)+1))))) I f (i+1) S n ep:=
 ⟨_,xCf _ ho (Obj.isFreed_of_fields (Obj.data_mapFields hd _)),(Obj.cls_mapFields ..).trans hc,by rw[Obj.data_mapFields hd]; simp[rawInt]⟩
theorem yS {h:Heap}{I:Addr}{Q:xOP}{R:Fin->Shared->Prop}(hh:A.handled=none)(hb:Heap.SameBut I s.heap h)(hQ:∀ h',Heap.ExtBut I s.heap h'->Q none { s with heap:=h' }) :
  wpAny (model prog w) A.in1 (newExc (.type "StopIteration") []>>=λe=>raiseNew (α:=Fin) e) R (λe s'=>wpAny (model prog w) A (isInstance e (.type "StopIteration")>>=λb=>if b=true then pure none else throw e) Q E s') { s with heap:=h }:=by
 refine xAb ?_;simp only[newExc,newTuple];refine xAb (xBu ?_ (by size_fits));refine xAb (m:=firstArgMember _ _) (xFz (a:=Value.none) (by first | rfl | (simp only[firstArgMember]; rfl)) ?_);refine xBu ?_ (by size_fits);simp only[raiseNew];refine xAb (xHt ?_);rw[show A.in1.handled=none from hh]
 refine xAb (xAe (xIj ?_));refine xAb (xDv (T:="StopIteration") (b:=true) ⟨_,xAk _ rfl,rfl⟩ isSubtype_stop ?_);exact xAe (hQ _ ((hb.extBut.push _).push _))
theorem nA {I S:Addr}{es:Array (Int×Value)}{ep i:Nat}{t:SetTable}{f:Value}{Q:xOP}(K:oG s.heap S es ep t)(x':SI s.heap I f i S es.size ep)
  (q:wpAny (model prog w) A.in1 (if let .int slot _:=f then do
    match <- setNext S slot.toNat i ep with
    | some (x,next)=>
     setField (.ref I) 0 (rawInt next)
     setField (.ref I) 1 (rawInt ((i:Int)+1))
     ret x
    | none=>setField (.ref I) 2 .none; raiseNew (<- newExc (.type "StopIteration") [])
   else do
    let some places <- seqItems? f | unsupported "internal:set_iterator"
    match places[i]? with
    | some (.int place _)=>
     let x <- setNextDrawn S place.toNat ep
     setField (.ref I) 1 (rawInt ((i:Int)+1))
     ret x
    | some _=>unsupported "internal:set_iterator"
    | none=>setField (.ref I) 0 (rawInt 0); setField (.ref I) 2 .none; raiseNew (<- newExc (.type "StopIteration") []))
   (λfin s'=>∃ v,fin=Fin.done (Flow.ret v)/\wpAny (model prog w) A (pure (some v)) Q E s')
   (λe s'=>wpAny (model prog w) A (isInstance e (.type "StopIteration")>>=λb=>if b=true then pure none else throw e) Q E s') s) :
  wpAny (model prog w) A (pyNext (.ref I)) Q E s:=by
 obtain⟨o,ho,hc,hd⟩:=id x';obtain⟨⟨oS,hoS,hdS⟩,fi⟩:=id K;unfold pyNext;refine xAb (xFg (wpAny_callSpecial?_slot (name:=Str.ofString "__next__") x'.typeIs mX (xCh mX x'.typeIs aJg ?_ (aJh _))));unfold Builtin.«set_iterator.__next__»;refine xAb (xAe ?_);refine xAb (xIs ho hd ?_);dsimp only;unfold setEntries;refine xAb (xAb (xDn hoS hdS fi (xAe ?_)));rw[xAy (by simp)];exact q
theorem wA {I S:Addr}{es:Array (Int×Value)}{ep i sl nx:Nat}{t:SetTable}{x:Value}{Q:xOP}(K:oG s.heap S es ep t)(x':SI s.heap I (.int sl 0) i S es.size ep)
  (hN:∀ {Q':Option (Value×Nat)->Shared->Prop}{E':xVP},Q' (some (x,nx)) s->wpAny (model prog w) A.in1 (setNext S sl i ep) Q' E' s)
  (hQ:∀ h',SI h' I (.int nx 0) (i+1) S es.size ep->Heap.SameBut I s.heap h'->Q (some x) { s with heap:=h' }):wpAny (model prog w) A (pyNext (.ref I)) Q E s:=by
 obtain⟨o,ho,hc,hd⟩:=id x';refine nA K x' ?_;refine xAb (hN ?_);dsimp only;refine xAb (xCy ho hd (by simp) ?_);have h1:=xCf (Obj.mapFields (·.setIfInBounds 0 (rawInt (nx:Int)))) ho (Obj.isFreed_of_fields (Obj.data_mapFields hd _));have d1:(Obj.mapFields (·.setIfInBounds 0 (rawInt (nx:Int))) o).data=.fields #[.int nx 0,.int i 0,.ref S,.int es.size 0,.int ep 0]:=by rw[Obj.data_mapFields hd]; simp[rawInt]
 have c1:(Obj.mapFields (·.setIfInBounds 0 (rawInt (nx:Int))) o).cls=.type "set_iterator":=(Obj.cls_mapFields ..).trans hc;refine xAb (xCy h1 d1 (by simp) ?_);refine xAe ⟨_,rfl,xAe (hQ _ ?_ ((xCb ..).trans (xCb ..)))⟩;exact⟨_,xCf _ h1 (Obj.isFreed_of_fields (Obj.data_mapFields d1 _)),(Obj.cls_mapFields ..).trans c1,by rw[Obj.data_mapFields d1]; simp[rawInt]⟩
theorem tS {I S:Addr}{es:Array (Int×Value)}{ep i sl:Nat}{t:SetTable}{Q:xOP}(hh:A.handled=none)(K:oG s.heap S es ep t)(x':SI s.heap I (.int sl 0) i S es.size ep)
  (hN:∀ {Q':Option (Value×Nat)->Shared->Prop}{E':xVP},Q' none s->wpAny (model prog w) A.in1 (setNext S sl i ep) Q' E' s)
  (hQ:∀ h',Heap.ExtBut I s.heap h'->Q none { s with heap:=h' }):wpAny (model prog w) A (pyNext (.ref I)) Q E s:=by
 obtain⟨o,ho,hc,hd⟩:=id x';refine nA K x' ?_;refine xAb (hN ?_);dsimp only;refine xAb (xCy ho hd (by simp) ?_);exact yS (s:=s) hh (xCb ..) hQ
theorem aCr {I S P:Addr}{es:Array (Int×Value)}{ep i j:Nat}{t:SetTable}{x:Int×Value}{pl:Array Value}{c:Nat}{Q:xOP}(K:oG s.heap S es ep t)(x':SI s.heap I (.ref P) i S es.size ep)
  (hP:s.heap.get? P=some { cls:=.type "tuple",data:=.seq pl c })(hj:pl[i]?=some (.int j 0))(hx:es[j]?=some x)
  (hQ:∀ h',SI h' I (.ref P) (i+1) S es.size ep->Heap.SameBut I s.heap h'->Q (some x.2) { s with heap:=h' }):wpAny (model prog w) A (pyNext (.ref I)) Q E s:=by
 obtain⟨o,ho,hc,hd⟩:=id x';obtain⟨⟨oS,hoS,hdS⟩,fi⟩:=id K;refine nA K x' ?_;refine xAb (xCz hP rfl ?_);dsimp only;rw[hj];dsimp only;unfold setNextDrawn;refine xAb (xAb (xDn hoS hdS fi ?_));dsimp only;rw[xAy (by simp)];refine xAb (xAe ?_);rw[xDo,hx];dsimp only;refine xAe ?_;refine xAb (xCy ho hd (by simp) ?_);refine xAe ⟨_,rfl,xAe (hQ _ (aFx (f':=.none) ho hc hd) (xCb ..))⟩
theorem zY {I S P:Addr}{es:Array (Int×Value)}{ep i:Nat}{t:SetTable}{pl:Array Value}{c:Nat}{Q:xOP}(hh:A.handled=none)(K:oG s.heap S es ep t)(x':SI s.heap I (.ref P) i S es.size ep)
  (hP:s.heap.get? P=some { cls:=.type "tuple",data:=.seq pl c })(hj:pl[i]?=none)
  (hQ:∀ h',Heap.ExtBut I s.heap h'->Q none { s with heap:=h' }):wpAny (model prog w) A (pyNext (.ref I)) Q E s:=by
 obtain⟨o,ho,hc,hd⟩:=id x';refine nA K x' ?_;refine xAb (xCz hP rfl ?_);dsimp only;rw[hj];dsimp only;refine xAb (xCy ho hd (by simp) ?_);have h1:=xCf (Obj.mapFields (·.setIfInBounds 0 (rawInt 0))) ho (Obj.isFreed_of_fields (Obj.data_mapFields hd _));refine xAb (xCy h1 (Obj.data_mapFields hd _) (by simp) ?_);exact yS (s:=s) hh ((xCb ..).trans (xCb ..)) hQ
theorem oM {S:Addr}{es:Array (Int×Value)}{ep i:Nat}{t:SetTable}(hw:w.params.followText "set-order"=true)(K:oG s.heap S es ep t){Q:Option (Value×Nat)->Shared->Prop}(h:Q (((pickOrder (w.params.setOrder S ep) es)[i]?).map λe=>(e.2,0)) s) :
  wpAny (model prog w) A (setNext S 0 i ep) Q E s:=by
 obtain⟨⟨oS,hoS,hdS⟩,fi⟩:=id K;unfold setNext setsByText;refine xAb (xDn hoS hdS fi ?_);dsimp only;refine xAb (xAb (xEm (xAe ?_)));have hw':(model prog w).w.params.followText "set-order"=true:=hw;rw[xBe hw',xAy (by simp)];unfold setWalk setsByText;refine xAb (xAb (xDn hoS hdS fi ?_));dsimp only;refine xAb (xAb (xEm (xAe ?_)));rw[xBe hw'];refine xAb (xEm (xAe (xAe h)))
theorem rC {S:Addr}{es:Array (Int×Value)}{ep i sl:Nat}{t:SetTable}(hw:w.params.followText "set-order"=false)(K:oG s.heap S es ep t)(hl:t.led=true)(h1:es.size<=1){Q:Option (Value×Nat)->Shared->Prop}
  (h:Q (match es[SetTable.below t.place sl]?,t.place[SetTable.below t.place sl]? with | some (_,x),some j=>some (x,j+1) | _,_=>none) s) :
  wpAny (model prog w) A (setNext S sl i ep) Q E s:=by
 obtain⟨⟨oS,hoS,hdS⟩,fi⟩:=id K;unfold setNext setsByText;refine xAb (xDn hoS hdS fi ?_);dsimp only;refine xAb (xAb (xEm (xAe ?_)));have hf:¬ ((model prog w).w.params.followText "set-order" = true):=by rw[show (model prog w).w.params.followText "set-order" = false from hw]; exact xAs
 rw[xAy hf];have hs:¬ (es.size>1):=by omega
 show wpAny _ _ (if (!t.plain&&decide (es.size>1))=true then _ else _) _ _ _
 rw[xAy (by simp[hs])];show wpAny _ _ ((if (!t.led&&!es.isEmpty)=true then _ else _)>>=_) _ _ _
 rw[xAy (by simp[hl])];exact xAb (xAe (xAe h))
end
section
variable {prog:Program}{w:World}{A:Around}{E:xVP}{s:Shared}
theorem aBf (hh:A.handled=none){I S:Addr}(hne:S≠I){es:Array (Int×Value)}{ep:Nat}{t:SetTable}(hw:w.params.followText "set-order"=true){vs:List Value}(hv:vs=(pickOrder (w.params.setOrder S ep) es).toList.map (·.2)) :
  Walks prog w A I [I,S] [I] vs.length (λi v=>vs[i]?=some v) (λi h=>SI h I (.int 0 0) i S es.size ep/\oG h S es ep t) where
 sub:=λb hb=>by simp at hb; simp[hb]
 frame:=λ_ _ _ st hk=>⟨st.1.at λo e=>hk I (by simp) o e,st.2.keep λo e=>hk S (by simp) o e⟩
 item:=λi s Q E hi st hQ=>by
  obtain⟨v,e2⟩:∃ v,vs[i]?=some v:=⟨_,xAh hi⟩;rw[hv,xAg,xBx] at e2;cases q:(pickOrder (w.params.setOrder S ep) es)[i]? with
  | none=>rw[q] at e2; cases e2
  | some x=>
   refine wA (x:=x.2) (nx:=0) (sl:=0) st.2 st.1 (λh=>oM hw st.2 (by rw[q]; exact h)) λh' a b=>hQ _ h' s.toks ?_ ⟨a,st.2.keep λo e=>(b.2 S hne).trans e⟩ λb' o hb e=>b.extBut b' o (λh=>hb (by simp[h])) e;rw[hv,xAg,xBx,q];rfl
 done:=λs Q E st hQ=>by
  refine tS (sl:=0) hh st.2 st.1 (λh=>oM hw st.2 ?_) λh' b=>hQ h' s.toks λb' o hb e=>b b' o (λh=>hb (by simp[h])) e
  have:(pickOrder (w.params.setOrder S ep) es)[vs.length]?=none:=by
   rw[hv,xAa,xBo];exact xDu (xAi _)
  rw[this];exact h
 self:=λ_ _ _ _ st hQ=>wW st.1 hQ
theorem wO (hh:A.handled=none){I S P:Addr}(hne:S≠I)(hP:P≠I){es:Array (Int×Value)}{ep:Nat}{t:SetTable}{ys:List Nat}(hy:∀ j∈ys,j<es.size){vs:List Value}(hv:vs=ys.map λj=>(es[j]?.map (·.2)).getD .none) :
  Walks prog w A I [I,S,P] [I] vs.length (λi v=>vs[i]?=some v) (λi h=>SI h I (.ref P) i S es.size ep/\oG h S es ep t/\h.get? P=some { cls:=.type "tuple",data:=.seq (ys.map λ(i:Nat)=>rawInt i).toArray }) where
 sub:=λb hb=>by simp at hb; simp[hb]
 frame:=λ_ _ _ st hk=>⟨st.1.at λo e=>hk I (by simp) o e,st.2.1.keep λo e=>hk S (by simp) o e,hk P (by simp) _ st.2.2⟩
 item:=λi s Q E hi st hQ=>by
  have hi':i<ys.length:=by rw[hv,xAa] at hi; exact hi
  have hj:=hy _ (xCt hi');have ex:es[ys[i]]?=some es[ys[i]]:=xCg hj;refine aCr (x:=es[ys[i]]) (j:=ys[i]) st.2.1 st.1 st.2.2 (by simp[rawInt,hi']) ex λh' a b=>hQ _ h' s.toks ?_ ⟨a,st.2.1.keep λo e=>(b.2 S hne).trans e,(b.2 P hP).trans st.2.2⟩ λb' o hb e=>b.extBut b' o (λh=>hb (by simp[h])) e;rw[hv,xAg,xAh hi',xGc,ex];rfl
 done:=λs Q E st hQ=>by
  refine zY hh st.2.1 st.1 st.2.2 (by rw[hv]; simp) λh' b=>hQ h' s.toks λb' o hb e=>b b' o (λh=>hb (by simp[h])) e
 self:=λ_ _ _ _ st hQ=>wW st.1 hQ
theorem aFm (hh:A.handled=none){I S:Addr}(hne:S≠I){es:Array (Int×Value)}{ep:Nat}{t:SetTable}(hw:w.params.followText "set-order"=false)(hl:t.led=true)(h1:es.size<=1)(fi:t.fits es.size=true){vs:List Value}(hv:vs=es.toList.map (·.2)) :
  Walks prog w A I [I,S] [I] vs.length (λi v=>vs[i]?=some v) (λi h=>∃ sl:Nat,SI h I (.int sl 0) i S es.size ep/\oG h S es ep t/\(i=0/\sl=0\/i=1/\∃ j,t.place[0]?=some j/\sl=j+1)) where
 sub:=λb hb=>by simp at hb; simp[hb]
 frame:=λ_ _ _ ⟨sl,a,b,c⟩ hk=>⟨sl,a.at λo e=>hk I (by simp) o e,b.keep λo e=>hk S (by simp) o e,c⟩
 item:=λi s Q E hi ⟨sl,a,b,c⟩ hQ=>by
  have hn:vs.length=es.size:=by rw[hv,xAa,xBo]
  have hi0:i=0:=by omega
  have hs:es.size=1:=by omega
  have hp:t.place.size=1:=by
   simp only[SetTable.fits,Bool.and_eq_true,beq_iff_eq,decide_eq_true_eq] at fi;omega
  subst hi0
  have hsl:sl=0:=by
   rcases c with c | c
   ·exact c.2
   ·exact xBg c.1 (by decide)
  subst hsl
  have bl:SetTable.below t.place 0=0:=by
   unfold SetTable.below;rw[hp];unfold SetTable.below.go;simp[SetTable.below.go]
  obtain⟨x,e0⟩:∃ x,es[0]?=some x:=⟨_,xCg (by omega)⟩;have p0:t.place[0]?=some t.place[0]:=xCg (by omega);refine wA (x:=x.2) (nx:=t.place[0]+1) (sl:=0) b a (λh=>rC hw b hl h1 ?_) λh' a' b'=>hQ _ h' s.toks ?_ ⟨_,a',b.keep λo e=>(b'.2 S hne).trans e,.inr ⟨rfl,_,p0,rfl⟩⟩ λb'' o hb e=>b'.extBut b'' o (λh=>hb (by simp[h])) e
  ·rw[bl,e0,p0];exact h
  ·rw[hv,xAg,xBx,e0];rfl
 done:=λs Q E ⟨sl,a,b,c⟩ hQ=>by
  have hn:vs.length=es.size:=by rw[hv,xAa,xBo]
  have hp:t.place.size=es.size:=by
   simp only[SetTable.fits,Bool.and_eq_true,beq_iff_eq,decide_eq_true_eq] at fi;omega
  refine tS hh b a (λh=>rC hw b hl h1 ?_) λh' b'=>hQ h' s.toks λb'' o hb e=>b' b'' o (λh=>hb (by simp[h])) e
  have:es[SetTable.below t.place sl]?=none:=by
   refine xDu ?_;rcases c with⟨c1,c2⟩ | ⟨c1,j,c2,c3⟩
   ·omega
   ·have hs:es.size=1:=by omega
    subst c3;have g:t.place.getD 0 (j+1)=j:=by rw[Array.getD_eq_getD_getElem?,c2]; rfl
    unfold SetTable.below;rw[hp,hs];unfold SetTable.below.go;simp[SetTable.below.go,g]
  rw[this];exact h
 self:=λ_ _ _ _ ⟨_,a,_⟩ hQ=>wW a hQ
theorem jA {α:Type} [DecidableEq α]:∀ {l m:List α},l.Nodup->(∀ x∈l,x∈m)->m.length<=l.length->l.Perm m
 | [],[],_,_,_=>.nil
 | [],_::_,_,_,h=>xBg h (by simp)
 | a::l,m,hn,hs,hl=>by
  obtain⟨ha,hn⟩:=xEg.mp hn;have hm:a∈m:=hs a (.head _);have p:=List.perm_cons_erase hm;refine ((jA (l:=l) (m:=m.erase a) hn (λx hx=>?_) ?_).cons a).trans p.symm
  ·have:=p.mem_iff.mp (hs x (.tail _ hx))
   rcases xAo.mp this with e | e
   ·exact xBg (e▸hx) ha
   ·exact e
  ·rw[xIx hm];simp at hl;omega
inductive mI:List Value->List Str->Prop
 | nil:mI [] []
 | cons {z:Str}{t:Tok}{vs:List Value}{zs:List Str}(h:mI vs zs):mI (.str z t::vs) (z::zs)
theorem mI.perm {vs vs':List Value}(p:vs'.Perm vs):∀ {zs:List Str},mI vs zs->∃ zs',mI vs' zs'/\zs'.Perm zs:=by
 induction p with
 | nil=>exact λh=>⟨_,h,.refl _⟩
 | cons x p ih=>
  intro zs h;cases h with
  | cons h=>obtain⟨zs',a,b⟩:=ih h; exact⟨_,.cons a,b.cons _⟩
 | swap x y l=>
  intro zs h;cases h with
  | cons h=>cases h with
   | cons h=>exact⟨_,.cons (.cons h),.swap ..⟩
 | trans p1 p2 i1 i2=>
  intro zs h;obtain⟨z1,a1,b1⟩:=i2 h;obtain⟨z2,a2,b2⟩:=i1 a1;exact⟨z2,a2,b2.trans b1⟩
theorem mI.mem {vs:List Value}{zs:List Str}(h:mI vs zs)(z:Str):z∈zs↔∃ v∈vs,(PySem.strKind prog w).is z v=true:=by
 induction h with
 | nil=>simp
 | cons h ih=>
  rename_i z' t vs zs
  rw[xAo,ih];constructor
  ·rintro (rfl | ⟨v,a,b⟩)
   ·exact⟨_,.head _,xEy z⟩
   ·exact⟨v,.tail _ a,b⟩
  ·rintro⟨v,a,b⟩;rcases xAo.mp a with rfl | a
   ·exact .inl (xEe.mp (show (z'==z)=true from b)).symm
   ·exact .inr ⟨v,a,b⟩
theorem mI.length {vs:List Value}{zs:List Str}(h:mI vs zs):zs.length=vs.length:=by
 induction h with
 | nil=>rfl
 | cons h ih=>simp[ih]
theorem aQy {z:Str}{v:Value}(h:(PySem.strKind prog w).is z v=true):∃ t,v=.str z t:=by
 cases v with
 | str z' t=>exact⟨t,by rw[<- xEe.mp h]⟩
 | _=>cases h
theorem aDv:∀ {l:List (Int×Value)},ElemsOf (PySem.strKind prog w) l->∃ zs,mI (l.map (·.2)) zs
 | [],_=>⟨[],.nil⟩
 | e::l,h=>by
  obtain⟨zs,a⟩:=aDv h.tail;obtain⟨⟨k,hk,_⟩,_⟩:=h.head;obtain⟨t,ht⟩:=aQy hk;refine⟨k::zs,?_⟩;rw[xCd,ht];exact .cons a
theorem aSn.texts {ss:List Str}{L:Bool}{o:Obj}{es:Array (Int×Value)}{ep:Nat}{t:SetTable}(S:aSn prog w ss L o es ep t){vs:List Value}(p:vs.Perm (es.toList.map (·.2))):∃ zs,mI vs zs/\zs.Perm (unl ss []):=by
 obtain⟨z0,a⟩:=aDv S.el;obtain⟨zs,b,c⟩:=a.perm p;refine⟨zs,b,c.trans (jA (jO ss [] .nil) (λz hz=>?_) ?_).symm⟩
 ·obtain⟨e,he,q⟩:=(S.me z).mp hz;exact (a.mem z).mpr ⟨_,xHp he,q⟩
 ·rw[a.length,xAa,xBo,S.sz];exact xAi _
theorem yU {S:Addr}{es:Array (Int×Value)}{ep:Nat}{t:SetTable}(K:oG s.heap S es ep t){Q:Bool->Shared->Prop}(h:Q (!w.params.followText "set-order" && (!t.plain&&decide (es.size>1))) s):wpAny (model prog w) A (setDrawn S) Q E s:=by
 obtain⟨⟨oS,hoS,hdS⟩,fi⟩:=id K;unfold setDrawn setsByText;refine xAb (xDn hoS hdS fi ?_);dsimp only;exact xAb (xAb (xEm (xAe (xAe h))))
theorem aHi {S:Addr}{ss:List Str}(T:nK s.heap S prog w ss (rR w))(hz:(unl ss []).length<=sizeLine){Q:xVP}
  (q:∀ (h':Heap) (d:Drawn) (I:Addr) (fp:List Addr) (vs:List Value) (zs:List Str) (St:Nat->Heap->Prop),(∀ b o,s.heap.get? b=some o->h'.get? b=some o)->s.heap.objs.size<=I->(∀ b∈fp,b=S\/s.heap.objs.size<=b) ->
   (∀ A':Around,A'.handled=none->Walks prog w A' I fp [I] vs.length (λi v=>vs[i]?=some v) St)->St 0 h'->mI vs zs->zs.Perm (unl ss [])->Q (.ref I) { s with heap:=h',drawn:=d }) :
  wpAny (model prog w) A (pyIter (.ref S)) Q E s:=by
 obtain⟨o,es,ep,t,ho,O⟩:=T;have hT:s.TypeIs (.ref S) "set":=⟨o,ho,O.ex.1⟩;have K:oG s.heap S es ep t:=⟨⟨o,ho,O.da⟩,O.fi⟩;have hS:S<s.heap.objs.size:=xAm ho;refine xGq hT F.slot_set_iter (xCh F.slot_set_iter hT aFy ?_ (F.args_set_iter_1 _));unfold Builtin.«frozenset.__iter__» Builtin.Frozenset.slot0 Builtin.Frozenset.sizeOf setEntries;refine xAb (xAb (m:=slotArgs "__iter__" 0 _) (xAe (xFz (a:=S) (by rfl) ?_)));refine xAb (xAb (xAb (xDn ho O.da O.fi (xAe (xAe ?_)))));refine xAb (yU K ?_);dsimp only;cases hw:w.params.followText "set-order" with
 | true=>
  simp only[Bool.not_true,Bool.false_and,Bool.false_eq_true,if_false];refine xAb (xAe (xAb (xHx ho O.da O.fi ?_)));refine xAb (xBu (xAe ⟨_,rfl,"set_iterator",_,⟨_,xAk _ rfl,rfl⟩,mX.lookup,?_⟩));obtain⟨zs,a,b⟩:=O.texts (vs:=(pickOrder (w.params.setOrder S ep) es).toList.map (·.2)) ((aGg _ es).map _);exact q _ s.drawn _ _ _ zs _ (λb o e=>xAf _ e) (xAi _) (λb hb=>by simp at hb; rcases hb with rfl | rfl; exact .inr (xAi _); exact .inl rfl) (λA' hh=>aBf (t:=t) hh (xAz hS) hw rfl) ⟨⟨_,xAk _ rfl,rfl,rfl⟩,K.keep λo e=>xAf _ e⟩ a b
 | false=>
  have hL:t.led=true:=by rw[O.le,rR,hw]; rfl
  by_cases h1:es.size>1
  ·have hp:t.plain=false:=by
    rcases O.pl with e | e
    ·omega
    ·exact e
   simp only[hp,Bool.not_false,Bool.true_and,decide_eq_true h1,if_true];refine xAb (wG es.size (List.range es.size) s (by simp) λys d hy=>?_);have hyl:ys.length=es.size:=by rw[hy.length_eq,xBv]
   refine xAb (wpAny_newTuple ?_ (by rw[xAa,hyl,O.sz]; exact hz));have g1:({ s with drawn:=d }:Shared).heap=s.heap:=rfl;have k1:∀ (o':Obj) b o,s.heap.get? b=some o->(s.heap.push o').get? b=some o:=λo' b o e=>xAf _ e;refine xAb (xHx (k1 _ _ _ ho) O.da O.fi ?_);refine xAb (xBu (xAe ⟨_,rfl,"set_iterator",_,⟨_,xAk _ rfl,rfl⟩,mX.lookup,?_⟩));have hys:∀ j∈ys,j<es.size:=λj hj=>xDm.mp (hy.mem_iff.mp hj)
   have pv:(ys.map λj=>(es[j]?.map (·.2)).getD .none).Perm (es.toList.map (·.2)):=by
    refine (hy.map _).trans ?_;refine List.Perm.of_eq (xFm λi=>?_);rw[xAg,xAg,xBx (xs:=es)]
    by_cases hi:i<es.size
    ·rw[xGg hi,xCg hi];simp[hi]
    ·rw[xFs (by simpa using hi),xDu (by omega)];rfl
   obtain⟨zs,a,b⟩:=O.texts pv;refine q _ d _ _ _ zs _ (λb o e=>xAf _ (xAf _ e)) (by rw[size_push']; exact xEr _) (λb hb=>?_) (λA' hh=>wO (t:=t) (ep:=ep) (P:=s.heap.objs.size) hh (by rw[size_push']; exact xAz (xGt hS)) (by rw[size_push']; exact xAz (xHa _)) hys rfl) ⟨⟨_,xAk _ rfl,rfl,rfl⟩,K.keep λo e=>xAf _ (xAf _ e),xAf _ (xAk _ rfl)⟩ a b;simp only[List.mem_cons,List.not_mem_nil,or_false] at hb;rcases hb with rfl | rfl | rfl
   ·exact .inr (by rw[size_push']; exact xEr _)
   ·exact .inl rfl
   ·exact .inr (xAi _)
  ·simp only[decide_eq_false h1,Bool.and_false,Bool.false_eq_true,if_false];refine xAb (xAe (xAb (xHx ho O.da O.fi ?_)));refine xAb (xBu (xAe ⟨_,rfl,"set_iterator",_,⟨_,xAk _ rfl,rfl⟩,mX.lookup,?_⟩));obtain⟨zs,a,b⟩:=O.texts (vs:=es.toList.map (·.2)) (.refl _);exact q _ s.drawn _ _ _ zs _ (λb o e=>xAf _ e) (xAi _) (λb hb=>by simp at hb; rcases hb with rfl | rfl; exact .inr (xAi _); exact .inl rfl) (λA' hh=>aFm (t:=t) hh (xAz hS) hw hL (by omega) O.fi rfl) ⟨0,⟨_,xAk _ rfl,rfl,rfl⟩,K.keep λo e=>xAf _ e,.inl ⟨rfl,rfl⟩⟩ a b
theorem aLz {r:Addr}{Q:Bool->Shared->Prop}(hT:s.TypeIs (.ref r) "set")(h:Q false s):wpAny (model prog w) A (Builtin.List.listLengthHint (.ref r)) Q E s:=by
 unfold Builtin.List.listLengthHint;refine xAb (wpAny_specialOf hT F.slot_set_len.lookup ?_);generalize hid:("set.__len__" : String)=id0
 wp_delta
 rw[show splitId id0=some ("set","__len__") from by subst hid; decide +kernel]
 subst hid;refine xAb (xDv (T:="set") (b:=true) hT (by rw[isSubtype_type]; kernel_rfl) ?_);refine xIl (λhab=>xBg hab (by decide)) (λ_=>?_);refine xIl (λ_=>?_) (λhab=>xBg (by decide +kernel) hab);exact xAb (wpAny_typeOf hT (xAe h))
theorem aAm {R:Result->Shared->Prop}{S L:Addr}{ss:List Str}(hh:A.handled=none)(T:nK s.heap S prog w ss (rR w))(hz:(unl ss []).length<=sizeLine)(hne:L≠S)(res:Value)(hL:s.heap.get? L=some { cls:=.type "list",data:=.seq #[] 0 })
  (hR:∀ h' tk d acc c zs,(∀ b o,b≠L->s.heap.get? b=some o->h'.get? b=some o)->h'.get? L=some { cls:=.type "list",dict:=none,data:=.seq acc c,slots:=#[] }->mI acc.toList zs->zs.Perm (unl ss [])->R (.ok (.ret res)) { s with heap:=h',toks:=tk,drawn:=d }) :
  wpAny (model prog w) A.in1 (Builtin.List.listExtendWith (.ref L) (.ref S) res)
   (λfin s'=>match fin with | .done f=>R (.ok f) s' | .again c'=>c'.quiet=true/\codeAny (model prog w) A c' R s') (λe s'=>R (.error e) s') s:=by
 have hLs:L<s.heap.objs.size:=xAm hL;have hT:s.TypeIs (.ref S) "set":=let ⟨o,_,_,_,ho,O⟩:=T; ⟨o,ho,O.ex.1⟩;unfold Builtin.List.listExtendWith;refine xAb (wpAny_typeOf (T:="set") hT ?_);have h1:Builtin.List.listSameRef (.ref L) (.ref S)=false:=by simp[Builtin.List.listSameRef,hne]
 have n1:(Value.type "set" == Value.type "list")=false:=by decide
 have n2:(Value.type "set" == Value.type "tuple")=false:=by decide
 simp only[h1,n1,n2,Bool.or_false,Bool.false_eq_true,if_false];refine xAb (aHi T hz λh1 d I fp vs zs St k hI hfp W st tx pz=>?_);have hT1:Shared.TypeIs { s with heap:=h1,drawn:=d } (.ref S) "set":=let ⟨o,ho,e⟩:=hT; ⟨o,k S o ho,e⟩;refine xAb (xCu (aLz hT1 ?_))
 have hLf:L∉fp:=λq=>by
  rcases hfp L q with e | e
  ·exact hne e
  ·exact xBg (xAq hLs e) (xCm _)
 have hn:vs.length<=sizeLine:=by rw[<- tx.length,pz.length_eq]; exact hz
 have key:∀ (h:Heap) (c₁:Nat),St 0 h->(∀ b o,b≠L->s.heap.get? b=some o->h.get? b=some o)->h.get? L=some { cls:=.type "list",data:=.seq #[] c₁ } ->
   codeAny (model prog w) A (.builtin "list.extend.loop" ⟨[.ref L,.ref I,res],[]⟩) R { s with heap:=h,drawn:=d }:=by
  intro h c₁ st k hL;refine codeAny_extend_loopS (W A.in1 hh).toS hn L hLf res vs.length 0 _ #[] c₁ rfl (xCa _) st hL (ItemsOf.nil _) λs' acc c hm hS' hacc=>?_;rw[Moved.eq_with hm];refine hR s'.heap s'.toks d acc c zs (λb o hb e=>hm.heap b o (λhmem=>?_) (k b o hb e)) hS' ?_ pz
  ·rcases xAo.mp hmem with e' | hmem
   ·exact hb e'
   ·have:=xAm e
    rw[xBb.mp hmem] at this;exact xBg (xAq this hI) (xCm _)
  ·have:acc.toList=vs:=by
    refine xFm λi=>?_
    by_cases hi:i<acc.size
    ·have e1:acc[i]?=some acc[i]:=xCg hi;rw[xBx,hacc.2 i _ e1,e1]
    ·rw[xFs (by simpa using hi),xFs (by rw[<- hacc.1]; omega)]
   rw[this];exact tx
 refine xIl (λ_=>?_) (λ_=>xAe ⟨plainId_quiet xIt _,key _ 0 st (λb o _ e=>k b o e) (k L _ hL)⟩);refine xAb (xGp ?_);refine xAb ?_;show wpAny _ _ (updateSeq L (·.push .none)>>=λ_=>updateSeq L (·.pop)) _ _ _;have e1:=k L _ hL;refine xAb (xHd e1 rfl ?_);have e2:=xCf (Obj.mapSeq (·.push Value.none)) e1 rfl;refine xHd (hz:=by seq_fits) e2 rfl ?_;have e3:=xCf (Obj.mapSeq (·.pop)) e2 rfl;have oth:∀ b o,b≠L->h1.get? b=some o->((h1.update L (Obj.mapSeq (·.push Value.none))).update L (Obj.mapSeq (·.pop))).get? b=some o:=λb o hb e=>(xEn _ _ (Ne.symm hb)).trans ((xEn _ _ (Ne.symm hb)).trans e);exact xAe ⟨plainId_quiet xIt _,key _ _ ((W A.in1 hh).frame 0 _ _ st λb hb o e=>oth b o (λq=>hLf (q▸hb)) e) (λb o hb e=>oth b o hb (k b o e)) e3⟩
theorem xV {R:List Value->Shared->Prop}{S:Addr}{ss:List Str}(hh:A.handled=none)(T:nK s.heap S prog w ss (rR w))(hz:(unl ss []).length<=sizeLine)
  (h:∀ (h':Heap) (tk:Nat) (d:Drawn) (acc:List Value) (zs:List Str),(∀ b o,s.heap.get? b=some o->h'.get? b=some o)->mI acc zs->zs.Perm (unl ss [])->R acc { s with heap:=h',toks:=tk,drawn:=d }) :
  wpAny (model prog w) A (collect (.ref S)) R E s:=by
 have hS:S<s.heap.objs.size:=let ⟨o,_,_,_,ho,_⟩:=T; xAm ho;unfold collect;refine xAb (wpAny_runValue (xDq entry_proto_collect' ?_));rw[Around.under_plainId PySem.F.plain_proto_collect _];show wpAny _ A.in1 (newList []>>=λl=>again (.builtin "list.__iadd__" ⟨[l,.ref S],[]⟩)) _ _ s;refine xAb (xBu ?_);refine xAe ⟨plainId_quiet xJe _,xDq entry_list_iadd' ?_⟩;rw[Around.under_plainId xJe _];have hL:(s.heap.push { cls:=.type "list",data:=.seq ([]:List Value).toArray }).get? s.heap.objs.size=some { cls:=.type "list",data:=.seq #[] }:=xAk _ rfl;show wpAny _ A.in1 (Builtin.List.listExtendWith (.ref s.heap.objs.size) (.ref S) (.ref s.heap.objs.size)) _ _ _
 have key:=aAm (A:=A) (s:={ s with heap:=s.heap.push { cls:=.type "list",data:=.seq ([]:List Value).toArray } }) (ss:=ss)
  (R:=λ(q:Result) (s':Shared)=>∃ h' tk d acc c zs,q=.ok (.ret (.ref s.heap.objs.size))/\s'={ s with heap:=h',toks:=tk,drawn:=d }/\(∀ b o,s.heap.get? b=some o->h'.get? b=some o)/\h'.get? s.heap.objs.size=some { cls:=.type "list",dict:=none,data:=.seq acc c,slots:=#[] }/\mI acc.toList zs/\zs.Perm (unl ss []))
  hh (oJ T λo e=>xAf _ e) hz (xEj hS) (.ref s.heap.objs.size) hL
  (λh' tk d acc c zs k e1 e2 e3=>⟨h',tk,d,acc,c,zs,rfl,rfl,λb o e=>k b o (xAz (xAm e)) (xAf _ e),e1,e2,e3⟩)
 refine xCr key (λfin s' x=>?_) λe s' x=>?_
 ·cases fin with
  | done f=>
   obtain⟨h',tk,d,acc,c,zs,e,rfl,k,hS',tx,pz⟩:=x;cases e;exact xAb (wpAny_load hS' (xAe (h h' tk d acc.toList zs k tx pz)))
  | again c₁=>
   refine⟨x.1,xDl x.2 λq s₂ y=>?_⟩;obtain⟨h',tk,d,acc,c,zs,rfl,rfl,k,hS',tx,pz⟩:=y;exact xAb (wpAny_load hS' (xAe (h h' tk d acc.toList zs k tx pz)))
 ·obtain⟨h',tk,d,acc,c,zs,e,_⟩:=x;cases e
end
section
variable {X:Cx}
def aMs (P:Program)(w:World)(a:Addr)(ss:List Str):Heap->Prop:=λh=>nK h a P w ss (rR w)
inductive aSm (X:Cx)(xs:List V)(H:Hp)(Q:VK):Prop
 | mk (a:Addr)(ss:List Str)(h0_:xs=[.ref a])(h1_:SqL X.K H a (ss.map V.str))(h2_:ss.length<=1000)(h3_:∀ p,H p=none->Q (.ref p) (upd H p (.ext (aMs X.prog X.w p ss))))
theorem aNm {us:List Value}{ss:List Str}(r:bZ (ss.map V.str) us)(i:Nat)(v:Value)(h:us.toArray[i]?=some v):∃ z t,ss[i]?=some z/\v=.str z t:=by
 rw[xFr] at h
 induction ss generalizing us i with
 | nil=>cases r; cases h
 | cons z ss ih=>
  cases r with
  | cons r1 r2=>
   cases i with
   | zero=>
    obtain⟨t,rfl⟩:=r1;cases h;exact⟨z,t,rfl,rfl⟩
   | succ i=>exact ih r2 i (by simpa using h)
theorem aMl (hc:X.calm=true):CallR X (.type "set") (aSm X):=by
 intro pins s Z H xs us Q I r h;obtain⟨a,ss,rfl,hs,hz,q⟩:=h;obtain⟨u,rfl,rx⟩:=iG r;cases rx;obtain⟨its,rv,pl,_⟩:=I.list hs;have hl:its.length=ss.length:=by rw[<- rv.length,xAa]
 refine aHv (I.ok.hd hc) pl.isList (by rw[xAw,hl]) (by rw[xAw,hl]; unfold scanBound; omega) (aNm rv) λh' tk T k=>?_;refine⟨.ref s.heap.objs.size,_,I.laid (t':=tk) k (xAi _) ?_,rfl,q _ (I.hok.fresh (xAi _))⟩;exact⟨T,let ⟨o,_,_,_,e,_⟩:=T; ⟨o,e⟩,λh1 h2 T1 k1=>oJ T1 k1⟩
theorem Inv.drew {pins:xPn}{Z:List (Option V)}{H:Hp}{s:Shared}(I:Inv X pins Z H s)(d:Drawn):Inv X pins Z H { s with drawn:=d }:=⟨I.ok,I.os,I.bare,I.base,I.loc,I.cell,I.free,I.freeC,I.pin,I.hok,I.len⟩
theorem aFp {vs:List Value}{zs:List Str}(h:mI vs zs):bZ (zs.map V.str) vs:=by
 induction h with
 | nil=>exact .nil
 | cons h ih=>exact .cons ⟨_,rfl⟩ ih
inductive aPq (X:Cx)(xs:List V)(H:Hp)(Q:VK):Prop
 | mk (a:Addr)(ss:List Str)(h0_:xs=[.ref a])(h1_:H a=some (.ext (aMs X.prog X.w a ss)))(h3_:(unl ss []).length<64)(h4_:∀ (p:Addr) (ss':List Str),H p=none->ss'.Perm (unl ss [])->sortedS ss'=true->Q (.ref p) (upd H p (.lst (ss'.map V.str))))
theorem xX (hc:X.calm=true):CallR X (.builtin "sorted") (aPq X):=by
 intro pins s Z H xs us Q I r h;obtain⟨a,ss,rfl,hs,h64,q⟩:=h;obtain⟨u,rfl,rx⟩:=iG r;cases rx;obtain⟨T,_⟩:=(show cU X.prog X.w H s.heap a (.ext (aMs X.prog X.w a ss)) from I.hok a _ hs)
 have hul:=wQ ss [];rw[xCq,xFd] at hul;refine call_function_entry kind_sorted plain_sorted entry_sorted (args_sorted1 _) ?_;unfold Builtin.«sorted»;refine xAb (m:=checkCount "sorted" 1 1 _) (xAe ?_);refine xAb (xV (A:=X.A.in1) (ss:=ss) (I.ok.hd hc) T (by rw[sizeLine_eq]; omega) λh' tk d acc zs hk tx pz=>?_);have hal:acc.length=(unl ss []).length:=by rw[<- tx.length,pz.length_eq]
 have rv:bZ (zs.map V.str) acc:=aFp tx;have hS:=iQ rv;refine xAb (xJb ?_ (by rw[hal,sizeLine_eq]; omega));have hoL:(h'.push (seqObj "list" acc.toArray 0)).get? h'.objs.size=some (seqObj "list" acc.toArray 0):=xAk _ rfl;refine xAb (xCu (xCh slot_list_sort ⟨_,hoL,rfl⟩ entry_list_sort (list_sort_treeK strKind_oneLt hoL hS.keysOf (λv₁ v₂ rest e=>keyKind_strs (by rw[<- e]; exact hS)) (by rw[hal]; omega) λst' a1 a2=>⟨_,rfl,?_⟩) (args_list_sort _)));obtain⟨ss',b1,b2,b3⟩:=sorted_out_str hS a1 a2;refine xAe ⟨_,rfl,?_⟩;have I1:Inv X pins Z H { s with heap:=h',toks:=tk,drawn:=d }:=(I.kept (t':=tk) hk).drew d;have hn:H h'.objs.size=none:=I1.hok.fresh (xAi _);obtain⟨e,he⟩:=sortedHeap_at (vs:=acc) (out:=(arrOf st').map (·.2)) hoL;refine⟨.ref h'.objs.size,_,I1.laid (t':=tk) (λb o z=>?_) (xAi _) ?_,rfl,q _ ss' hn (b2.trans pz) b3⟩
 ·have hb:b<h'.objs.size:=xAm z;rw[sortedHeap_old (xAz hb) (by rw[size_push']; exact xGt hb)];exact xAf _ z
 ·exact⟨by rw[xAa,b2.length_eq,pz.length_eq,sizeLine_eq]; omega,_,e,jN b1,he⟩
end
section
variable {prog:Program}{w:World}{M:Model}{A:Around}{E:xVP}{s:Shared}{K:Frag}{x C:Addr}{ox:Obj}{od:Option Obj}
theorem aFh {name:Str}{id:String}{args:List Value}{Q:xOP}(X:K.In s.heap)(I:InstAt s.heap x ox C od)(hs:findIn K (.ref C) name=some (some (.builtin id)))
  (hb:∀ self,bindSpecial (.builtin id) self=pure (.builtin id,[self]))(h:wpAny M A (call (.builtin id) (.ref x::args)) (λv=>Q (some v)) E s):wpAny M A (callSpecialIfBound? (.ref x) name args) Q E s:=by
 simp only[callSpecialIfBound?,bindSpecialIfBound?];refine xCu (xAb (xAb (xAb (I.type.here ((looks_findIn X hs).here ?_)))));refine xAb (xEm (wpAny_ite ?_));have fin:wpAny M A (call (.builtin id) ([.ref x]++args)>>=λv=>pure (some v)) Q E s:=xAb (xCr h (λv s' h'=>xAe h') λ_ _ h'=>h');split
 ·exact xAb ((Looks.of_pure (hb _)).here (xAe (by exact fin)))
 ·exact xIr (xAb ((Looks.of_pure (hb _)).here (xAe (by exact fin))))
structure aBb (K:Frag)(C:Addr):Prop where
 eq:findIn K (.ref C) "__eq__" = some (some (.builtin "object.__eq__"))
 ne:findIn K (.ref C) "__ne__" = some (some (.builtin "object.__ne__"))
 mr:mroIn K C (.type "object")=some true
theorem aCo (N:aBb K C)(X:K.In s.heap)(I:InstAt s.heap x ox C od)(hu:A.units<cLine){Q:Fin->Shared->Prop}(hq:Q (.done (.ret (.bool false))) s):wpAny (model prog w) A (Builtin.«object.__ne__» ⟨[.ref x,.ref x],[]⟩) Q E s:=by
 unfold Builtin.«object.__ne__»;refine xAb (m:=slotArgs "__ne__" 1 _) (xAe ?_);dsimp only;refine xAb (wpAny_cRoomFor hu ?_);refine xAb (aFh X I N.eq PySem.F.cmp_object.eq.bind (xFc (xEx PySem.F.cmp_object.eq.plain PySem.F.cmpEntry_eq (check_slot PySem.F.cmpKind_eq PySem.F.cmpSplit_eq (I.type.andThen (looks_mroIn X N.mr)) (PySem.F.cmpArgs_eq _ _) (objEq_entry_same ?_)))));exact xAb (xEd (xAe hq))
theorem aOt (N:aBb K C)(X:K.In s.heap)(I:InstAt s.heap x ox C od)(hu:A.units+1<cLine){Q:xVP}(hq:Q (.bool false) s):wpAny (model prog w) A (compareOp .NotEq (.ref x) (.ref x)) Q E s:=by
 have hu0:A.units<cLine:=xHz hu;show wpAny _ _ (richCompare .NotEq (.ref x) (.ref x)) _ _ _
 have one:wpAny (model prog w) A (tryCompare (.ref x) (Str.ofString "__ne__") (.ref x)) (λr s'=>∃ v,r=some v/\Q v s') E s:=by
  unfold tryCompare;refine xAb (aFh X I N.ne PySem.F.cmp_object.ne.bind (xFc (xEx PySem.F.cmp_object.ne.plain PySem.F.cmpEntry_ne (check_slot PySem.F.cmpKind_ne PySem.F.cmpSplit_ne (I.type.andThen (looks_mroIn X N.mr)) (PySem.F.cmpArgs_ne _ _) (aCo (A:=A.in1) N X I hu ?_)))));exact xAe ⟨_,rfl,hq⟩
 simp only[richCompare,cmpInfo_NotEq,oneThing_ref];refine xCu (xAb (wpAny_cRoomFor hu0 ?_));refine xAb (I.type.here (xAb (I.type.here ?_)));rw[xAy (by simp)];refine xAb (xAe ?_);simp only[Bool.false_eq_true,if_false];refine xAb (xCr one (λr s' z=>?_) λ_ _ e=>e);obtain⟨v,rfl,hq⟩:=z;exact xAe hq
end
section
variable {X:Cx}
inductive aRe (K:xAd)(x y:V)(H:Hp)(Q:VK):Prop
 | mk (a C dx:Addr)(fs:List (Str×V))(h0_:x=.ref a)(h1_:y=.ref a)(h2_:H a=some (.ins C dx fs))(h3_:aBb K C)(h4_:Q (.bl false) H)
theorem aKl (hu:X.A.units+1<cLine):OpR X (compareOp .NotEq) (aRe X.K):=by
 intro pins s Z H x y v u Q I rx ry h;obtain⟨a,C,dx,fs,rfl,rfl,ha,N,q⟩:=h;cases rx;cases ry;obtain⟨mA,O,_⟩:=pI I.hok ha;obtain⟨od,J,_⟩:=O.look;exact aOt N I.kIn J hu ⟨.bl false,H,I,rfl,q⟩
end
end L2
namespace L2
open PySem PySem.Spec PySem.Calls PyProof.Rows PySem.W
open PySem.AutoSeq1 (wpAny_loadPart')
structure Src (P:Program)(w:World)(it l:Addr)(st:Nat->Heap->Prop)(bk:Array Value->Heap->Prop):Prop where
 one:∀ {A:Around}{E:xVP}{s:Shared}{k:Nat}{us:Array Value}{x:Value}{Q:xVP},st k s.heap->bk us s.heap->us[k]?=some x ->
  (∀ h',st (k+1) h'->Heap.SameBut it s.heap h'->Q x { s with heap:=h' })->wpAny (model P w) A (Builtin.SmallTypes.nextOf (.ref it)) Q E s
 out:∀ {A:Around}{E:xVP}{s:Shared}{k:Nat}{us:Array Value}{Q:xVP},A.handled=none->st k s.heap->bk us s.heap->us[k]?=none ->
  (∀ h' e,Heap.ExtBut it s.heap h'->(∃ o,h'.get? e=some o/\o.cls=.type "StopIteration")->E (.ref e) { s with heap:=h' })->wpAny (model P w) A (Builtin.SmallTypes.nextOf (.ref it)) Q E s
 kp:∀ {k:Nat}{h h':Heap},st k h->(∀ o,h.get? it=some o->h'.get? it=some o)->st k h'
 bp:∀ {us:Array Value}{h h':Heap},bk us h->(∀ o,h.get? l=some o->h'.get? l=some o)->bk us h'
 ob:∀ {k:Nat}{h:Heap},st k h->∃ o vs,h.get? it=some o/\o.data=.fields vs
section
variable {P:Program}{w:World}
theorem yM (it l:Addr):Src P w it l (λk h=>h.IsListIter it l k) (λus h=>h.IsList l us):=
 ⟨λh1 h2 hx q=>wpAny_nextOf_list_item h1 h2 hx q,λhh h1 h2 hx q=>wpAny_nextOf_list_end hh h1 h2 hx q,λh k=>h.at k,λh k=>h.at k,λ⟨o,e,_,d⟩=>⟨o,_,e,d⟩⟩
section
variable {A:Around}{E:xVP}{s:Shared}
theorem aNg {it t:Addr}{k:Nat}{us:Array Value}{x:Value}{Q:xVP}(h1:s.heap.IsTupleIter it t k)(h2:s.heap.IsTuple t us)(hx:us[k]?=some x)
  (q:∀ h',h'.IsTupleIter it t (k+1)->Heap.SameBut it s.heap h'->Q x { s with heap:=h' }):wpAny (model P w) A (Builtin.SmallTypes.nextOf (.ref it)) Q E s:=by
 obtain⟨o,e,c,d⟩:=id h1;obtain⟨ot,et,_,n,dt⟩:=h2;unfold Builtin.SmallTypes.nextOf;refine xAb (wpAny_callSpecial?_slot (name:=Str.ofString "__next__") h1.typeIs xEb (xCh xEb h1.typeIs xHv ?_ (xHr _)));show wpAny _ _ (field (.ref it) 0>>=_) _ E s;refine xAb (xDp e d (x:=.ref t) rfl ?_);show wpAny _ _ (if (Value.ref t==Value.none)=true then _ else _) _ E s
 rw[xAy (c:=(Value.ref t==Value.none)=true) λz=>xAs z];show wpAny _ _ (field (.ref it) 1>>=_) _ E s;refine xAb (xDp e d (x:=.int k 0) rfl ?_);show wpAny _ _ (seqItems? (.ref t)>>=_) _ E s;refine xAb (xCz et dt ?_);simp only[hx,Int.toNat_natCast];refine xAb (xCy e d (by simp) (xAe ⟨x,rfl,xAe (q _ ⟨_,xCf _ e (Obj.isFreed_of_fields (Obj.data_mapFields d _)),(Obj.cls_mapFields ..).trans c,?_⟩ (xCb ..))⟩));rw[Obj.data_mapFields d];simp[rawInt]
theorem aNf {it t:Addr}{k:Nat}{us:Array Value}{Q:xVP}(hh:A.handled=none)(h1:s.heap.IsTupleIter it t k)(h2:s.heap.IsTuple t us)(hx:us[k]?=none)
  (q:∀ h' e,Heap.ExtBut it s.heap h'->(∃ o,h'.get? e=some o/\o.cls=.type "StopIteration")->E (.ref e) { s with heap:=h' }):wpAny (model P w) A (Builtin.SmallTypes.nextOf (.ref it)) Q E s:=by
 obtain⟨o,e,c,d⟩:=id h1;obtain⟨ot,et,_,n,dt⟩:=h2;unfold Builtin.SmallTypes.nextOf;refine xAb (wpAny_callSpecial?_slot (name:=Str.ofString "__next__") h1.typeIs xEb (xCh xEb h1.typeIs xHv ?_ (xHr _)));show wpAny _ _ (field (.ref it) 0>>=_) _ E s;refine xAb (xDp e d (x:=.ref t) rfl ?_);show wpAny _ _ (if (Value.ref t==Value.none)=true then _ else _) _ E s
 rw[xAy (c:=(Value.ref t==Value.none)=true) λz=>xAs z];show wpAny _ _ (field (.ref it) 1>>=_) _ E s;refine xAb (xDp e d (x:=.int k 0) rfl ?_);show wpAny _ _ (seqItems? (.ref t)>>=_) _ E s;refine xAb (xCz et dt ?_);simp only[hx,Int.toNat_natCast];refine xAb (xGp (xAb (xCy e d (by simp) ?_)));show wpAny _ _ (newExc (.type "StopIteration") []>>=_) _ E _;refine xAb ?_;simp only[newTuple,newExc];refine xAb (xBu (xAb (m:=firstArgMember _ _) (xFz (a:=Value.none) (by first | rfl | (simp only[firstArgMember]; rfl)) (xBu ?_ (by size_fits)))) (by size_fits));simp only[raiseNew];refine xAb (xHt ?_)
 first | rw[show A.in1.handled=none from hh] | rw[hh]
 exact xAb (xAe (xIj (q _ _ (((xCb ..).extBut.push _).push _) ⟨_,xAk _ rfl,rfl⟩)))
theorem aDy (it t:Addr):Src P w it t (λk h=>h.IsTupleIter it t k) (λus h=>h.IsTuple t us):=
 ⟨λh1 h2 hx q=>aNg h1 h2 hx q,λhh h1 h2 hx q=>aNf hh h1 h2 hx q,λh k=>h.at k,λ⟨o,e,r⟩ k=>⟨o,k o e,r⟩,λ⟨o,e,_,d⟩=>⟨o,_,e,d⟩⟩
variable {z ti to i1 i2 l1 l2:Addr}{st1 st2:Nat->Heap->Prop}{bk1 bk2:Array Value->Heap->Prop}{k:Nat}{us vs:Array Value}{a b x y:Value}
theorem aNb {Q:xVP}(S1:Src P w i1 l1 st1 bk1)(S2:Src P w i2 l2 st2 bk2)(D:ZipApart z ti to i1 i2 l1 l2)(hz:IsZip s.heap z ti to .none)(hti:IsPair s.heap ti (.ref i1) (.ref i2))(hto:IsPair s.heap to a b)
  (h1:st1 k s.heap)(h2:st2 k s.heap)(b1:bk1 us s.heap)(b2:bk2 vs s.heap)(hx:us[k]?=some x)(hy:vs[k]?=some y)
  (hQ:∀ h',IsZip h' z ti to (rawInt s.heap.objs.size)->IsPair h' to x y->st1 (k+1) h'->st2 (k+1) h'->IsPair h' s.heap.objs.size x y->h'.objs.size=s.heap.objs.size+1 ->
   (∀ c o,c≠z->c≠to->c≠i1->c≠i2->s.heap.get? c=some o->h'.get? c=some o)->Q (.ref s.heap.objs.size) { s with heap:=h' }) :
  wpAny (model P w) A (Builtin.«zip.__next__» ⟨[.ref z],[]⟩) (λfin s'=>∃ v,fin=.done (.ret v)/\Q v s') E s:=by
 show wpAny _ _ (field (.ref z) 2>>=_) _ E s;refine xAb (xDp hz rfl (x:=.bool false) rfl (show wpAny _ _ (field (.ref z) 3>>=_) _ E s from xAb (xDp hz rfl (x:=.ref ti) rfl (xAb (xCz hti rfl ?_)))))
 show wpAny _ _ (Builtin.SmallTypes.ownedTupleIsFree (.ref z)>>=_) _ E s;refine xAb ?_;unfold Builtin.SmallTypes.ownedTupleIsFree;refine xAb (xDp hz rfl (x:=.none) rfl (xAe ?_));simp only[if_true];refine xAb (xGp (xAb (xDp hz rfl (x:=.ref to) rfl (xAb (xEp hz (by simp) λg1 z1 c1=>?_)))));replace z1:IsZip g1 z ti to .ellipsis:=z1;refine xAb ?_;simp only[List.forIn_cons,List.forIn_nil,List.zipIdx_nil,List.zipIdx_cons];refine xAb (xAb (xHs (show wpAny _ _ (Builtin.SmallTypes.nextOf (.ref i1)>>=_) _ _ _ from xAb (S1.one (S1.kp h1 λo e=>c1.extBut _ _ D.i1z e) (S1.bp b1 λo e=>c1.extBut _ _ D.l1z e) hx λg2 h12 c2=>xAe ?_))))
 have t2:IsPair g2 to a b:=c2.extBut _ _ D.TOi1 (c1.extBut _ _ D.TOz hto);refine xAb (xCz t2 rfl (xAb (xHk t2 λg3 t3 c3=>xAb (xIk (xAe ?_)))));replace t3:IsPair g3 to x b:=t3
 refine xAb (xAb (xHs (show wpAny _ _ (Builtin.SmallTypes.nextOf (.ref i2)>>=_) _ _ _ from xAb (S2.one (S2.kp h2 λo e=>c3.extBut _ _ D.TOi2.symm (c2.extBut _ _ D.i12.symm (c1.extBut _ _ D.i2z e)))
  (S2.bp b2 λo e=>c3.extBut _ _ D.l2TO (c2.extBut _ _ D.l2i1 (c1.extBut _ _ D.l2z e))) hy λg4 h24 c4=>xAe ?_))))
 have t4:IsPair g4 to x b:=c4.extBut _ _ D.TOi2 t3;refine xAb (xCz t4 rfl (xAb (xHk t4 λg5 t5 c5=>xAb (xIk (xAe (xAe ?_))))));replace t5:IsPair g5 to x y:=t5;refine xAb (xCz t5 rfl (xAb (wpAny_newTuple ?_)));have sz:g5.objs.size=s.heap.objs.size:=by rw[c5.1,c4.1,c3.1,c2.1,c1.1]
 have z5:IsZip g5 z ti to .ellipsis:=c5.extBut _ _ D.TOz.symm (c4.extBut _ _ D.i2z.symm (c3.extBut _ _ D.TOz.symm (c2.extBut _ _ D.i1z.symm z1)));have k5:∀ c o,c≠z->c≠to->c≠i1->c≠i2->s.heap.get? c=some o->g5.get? c=some o:=λc o n1 n2 n3 n4 e=>c5.extBut _ _ n2 (c4.extBut _ _ n4 (c3.extBut _ _ n2 (c2.extBut _ _ n3 (c1.extBut _ _ n1 e))));have h15:st1 (k+1) g5:=S1.kp h12 λo e=>c5.extBut _ _ D.TOi1.symm (c4.extBut _ _ D.i12 (c3.extBut _ _ D.TOi1.symm e));have h25:st2 (k+1) g5:=S2.kp h24 λo e=>c5.extBut _ _ D.TOi2.symm e;show wpAny _ _ (Builtin.SmallTypes.ownedTupleHandOut (.ref z) (.ref g5.objs.size)>>=_) _ E _;refine xAb ?_;unfold Builtin.SmallTypes.ownedTupleHandOut;have z6:IsZip (g5.push { cls:=.type "tuple",data:=.seq #[x,y] }) z ti to .ellipsis:=xAf _ z5;refine xAb (xEp z6 (by simp) λg7 z7 c7=>xEp (show IsZip g7 z ti to (rawInt g5.objs.size) from z7) (by simp) λg8 z8 c8=>?_)
 replace z8:IsZip g8 z ti to (rawInt g5.objs.size):=z8;have up:∀ c o,c≠z->g5.get? c=some o->g8.get? c=some o:=λc o n e=>c8.extBut _ _ n (c7.extBut _ _ n (xAf _ e));have lz:=xAm z5;have t8:IsPair g8 g5.objs.size x y:=c8.extBut _ _ (xEj lz) (c7.extBut _ _ (xEj lz) (xAk _ rfl));have s8:g8.objs.size=g5.objs.size+1:=by rw[c8.1,c7.1,xEa]
 rw[sz] at z8 t8 s8;refine xAe ⟨_,rfl,?_⟩;show Q (.ref g5.objs.size) _;rw[sz];exact hQ g8 z8 (up _ _ D.TOz t5) (S1.kp h15 λo e=>up _ o D.i1z e) (S2.kp h25 λo e=>up _ o D.i2z e) t8 s8 λc o n1 n2 n3 n4 e=>up c o n1 (k5 c o n1 n2 n3 n4 e)
theorem aNa {Q:Fin->Shared->Prop}(hh:A.handled=none)(S1:Src P w i1 l1 st1 bk1)(S2:Src P w i2 l2 st2 bk2)(D:ZipApart z ti to i1 i2 l1 l2)(hz:IsZip s.heap z ti to .none)(hti:IsPair s.heap ti (.ref i1) (.ref i2))(hto:IsPair s.heap to a b)
  (h1:st1 k s.heap)(h2:st2 k s.heap)(b1:bk1 us s.heap)(b2:bk2 vs s.heap)(he:us[k]?=none\/vs[k]?=none)
  (hE:∀ h' e,(∀ c o,c≠z->c≠to->c≠i1->c≠i2->s.heap.get? c=some o->h'.get? c=some o)->(∃ o,h'.get? e=some o/\o.cls=.type "StopIteration")->E (.ref e) { s with heap:=h' }) :
  wpAny (model P w) A (Builtin.«zip.__next__» ⟨[.ref z],[]⟩) Q E s:=by
 show wpAny _ _ (field (.ref z) 2>>=_) _ E s;refine xAb (xDp hz rfl (x:=.bool false) rfl (show wpAny _ _ (field (.ref z) 3>>=_) _ E s from xAb (xDp hz rfl (x:=.ref ti) rfl (xAb (xCz hti rfl ?_)))))
 show wpAny _ _ (Builtin.SmallTypes.ownedTupleIsFree (.ref z)>>=_) _ E s;refine xAb ?_;unfold Builtin.SmallTypes.ownedTupleIsFree;refine xAb (xDp hz rfl (x:=.none) rfl (xAe ?_));simp only[if_true];refine xAb (xGp (xAb (xDp hz rfl (x:=.ref to) rfl (xAb (xEp hz (by simp) λg1 z1 c1=>?_)))));replace z1:IsZip g1 z ti to .ellipsis:=z1;refine xAb ?_;simp only[List.forIn_cons,List.forIn_nil,List.zipIdx_nil,List.zipIdx_cons];refine xAb (xAb (xHs ?_));show wpAny _ _ (Builtin.SmallTypes.nextOf (.ref i1)>>=_) _ _ _;have h1':=S1.kp h1 λo e=>c1.extBut _ _ D.i1z e;have b1':=S1.bp b1 λo e=>c1.extBut _ _ D.l1z e;cases hx:us[k]? with
 | none=>
  refine xAb (S1.out hh h1' b1' hx λg2 e c2 ⟨oe,ho,hc⟩=>?_);have z2:IsZip g2 z ti to .ellipsis:=c2 _ _ D.i1z.symm z1;have nz:e≠z:=λq=>by rw[q,z2] at ho; cases ho; simp at hc
  exact xEp z2 (by simp) λg3 _ c3=>hE g3 e (λc o n1 _ n3 _ q=>c3.extBut _ _ n1 (c2 _ _ n3 (c1.extBut _ _ n1 q))) ⟨oe,c3.extBut _ _ nz ho,hc⟩
 | some x=>
  have hy:vs[k]?=none:=he.resolve_left λq=>by rw[hx] at q; cases q
  refine xAb (S1.one h1' b1' hx λg2 h12 c2=>xAe ?_);have t2:IsPair g2 to a b:=c2.extBut _ _ D.TOi1 (c1.extBut _ _ D.TOz hto);refine xAb (xCz t2 rfl (xAb (xHk t2 λg3 t3 c3=>xAb (xIk (xAe (xAb (xAb (xHs ?_))))))));show wpAny _ _ (Builtin.SmallTypes.nextOf (.ref i2)>>=_) _ _ _;refine xAb (S2.out hh (S2.kp h2 λo e=>c3.extBut _ _ D.TOi2.symm (c2.extBut _ _ D.i12.symm (c1.extBut _ _ D.i2z e))) (S2.bp b2 λo e=>c3.extBut _ _ D.l2TO (c2.extBut _ _ D.l2i1 (c1.extBut _ _ D.l2z e))) hy λg4 e c4 ⟨oe,ho,hc⟩=>?_);have z4:IsZip g4 z ti to .ellipsis:=c4 _ _ D.i2z.symm (c3.extBut _ _ D.TOz.symm (c2.extBut _ _ D.i1z.symm z1));have nz:e≠z:=λq=>by rw[q,z4] at ho; cases ho; simp at hc
  exact xEp z4 (by simp) λg5 _ c5=>hE g5 e (λc o n1 n2 n3 n4 q=>c5.extBut _ _ n1 (c4 _ _ n4 (c3.extBut _ _ n2 (c2.extBut _ _ n3 (c1.extBut _ _ n1 q))))) ⟨oe,c5.extBut _ _ nz ho,hc⟩
theorem aLe {Q:xOP}(S1:Src P w i1 l1 st1 bk1)(S2:Src P w i2 l2 st2 bk2)(D:ZipApart z ti to i1 i2 l1 l2)(hz:IsZip s.heap z ti to .none)(hti:IsPair s.heap ti (.ref i1) (.ref i2))(hto:IsPair s.heap to a b)
  (h1:st1 k s.heap)(h2:st2 k s.heap)(b1:bk1 us s.heap)(b2:bk2 vs s.heap)(hx:us[k]?=some x)(hy:vs[k]?=some y)
  (hQ:∀ h',IsZip h' z ti to (rawInt s.heap.objs.size)->IsPair h' to x y->st1 (k+1) h'->st2 (k+1) h'->IsPair h' s.heap.objs.size x y->h'.objs.size=s.heap.objs.size+1 ->
   (∀ c o,c≠z->c≠to->c≠i1->c≠i2->s.heap.get? c=some o->h'.get? c=some o)->Q (some (.ref s.heap.objs.size)) { s with heap:=h' }):wpAny (model P w) A (pyNext (.ref z)) Q E s:=by
 have hT:s.TypeIs (.ref z) "zip":=⟨_,hz,rfl⟩;unfold pyNext;exact xAb (xFg (wpAny_callSpecial?_slot (name:=Str.ofString "__next__") hT xFp (xCh xFp hT xJn (aNb S1 S2 D hz hti hto h1 h2 b1 b2 hx hy λh' a1 a2 a3 a4 a5 a6 a7=>xAe (hQ h' a1 a2 a3 a4 a5 a6 a7)) (xJg _))))
theorem aKj {Q:xOP}(hh:A.handled=none)(S1:Src P w i1 l1 st1 bk1)(S2:Src P w i2 l2 st2 bk2)(D:ZipApart z ti to i1 i2 l1 l2)(hz:IsZip s.heap z ti to .none)(hti:IsPair s.heap ti (.ref i1) (.ref i2))(hto:IsPair s.heap to a b)
  (h1:st1 k s.heap)(h2:st2 k s.heap)(b1:bk1 us s.heap)(b2:bk2 vs s.heap)(he:us[k]?=none\/vs[k]?=none)
  (hQ:∀ h',(∀ c o,c≠z->c≠to->c≠i1->c≠i2->s.heap.get? c=some o->h'.get? c=some o)->Q none { s with heap:=h' }):wpAny (model P w) A (pyNext (.ref z)) Q E s:=by
 have hT:s.TypeIs (.ref z) "zip":=⟨_,hz,rfl⟩;unfold pyNext;refine xAb (xFg (wpAny_callSpecial?_slot (name:=Str.ofString "__next__") hT xFp (xCh xFp hT xJn (aNa hh S1 S2 D hz hti hto h1 h2 b1 b2 he λh' e hk ⟨o,ho,hc⟩=>?_) (xJg _))));exact xAb (xDv (T:="StopIteration") (b:=true) ⟨o,ho,hc⟩ isSubtype_stop (xAe (hQ _ hk)))
end
end
end L2
namespace L2
open PySem PySem.Spec PySem.Calls PyProof.Rows PySem.W
abbrev lC (n:String)(l:Addr):Obj:={ cls:=.type n,data:=.fields #[.ref l,.int 0 0] }
abbrev zg2 (h:Heap)(o1 o2:Obj):Heap:=(h.push o1).push o2
abbrev zg3 (h:Heap)(o1 o2:Obj):Heap:=(zg2 h o1 o2).push { cls:=.type "tuple",data:=.seq #[.ref h.objs.size,.ref (h.push o1).objs.size] }
abbrev zg4 (h:Heap)(o1 o2:Obj):Heap:=(zg3 h o1 o2).push { cls:=.type "tuple",data:=.seq #[.none,.none] }
abbrev zg5 (h:Heap)(o1 o2:Obj):Heap:=(zg4 h o1 o2).push { cls:=.type "zip",data:=.fields #[.none,.bool false,.bool false,.ref (zg2 h o1 o2).objs.size,.ref (zg3 h o1 o2).objs.size] }
theorem aAg (l t:Addr)(xs ys:Array Value):Meets (Builtin.«zip.__new__» ⟨[.type "zip",.ref l,.ref t],[]⟩) (λ_ R s=>s.heap.IsList l xs/\s.heap.IsTuple t ys /\
  R (.ok (.ret (.ref (zg4 s.heap (lC "list_iterator" l) (lC "tuple_iterator" t)).objs.size))) { s with heap:=zg5 s.heap (lC "list_iterator" l) (lC "tuple_iterator" t) }):=
 .of_wp λprog w A R s h=>by
  obtain⟨hp,g,d,tk,os⟩:=s;obtain⟨h1,h2,h⟩:=h;have hsub:=sub_zip;have j1:Heap.IsList (Shared.heap ⟨hp,g,d,tk,os⟩) l xs:=h1;have j2:Heap.IsTuple (Shared.heap ⟨hp.push { cls:=.type "list_iterator",data:=.fields #[.ref l,.int 0 0] },g,d,tk,os⟩) t ys:=Heap.IsTuple.push h2 _
  wp_walk using xEu j1,wpAny_pyIter_tuple j2
  exact⟨_,rfl,h⟩
theorem aAf (t l:Addr)(ys xs:Array Value):Meets (Builtin.«zip.__new__» ⟨[.type "zip",.ref t,.ref l],[]⟩) (λ_ R s=>s.heap.IsTuple t ys/\s.heap.IsList l xs /\
  R (.ok (.ret (.ref (zg4 s.heap (lC "tuple_iterator" t) (lC "list_iterator" l)).objs.size))) { s with heap:=zg5 s.heap (lC "tuple_iterator" t) (lC "list_iterator" l) }):=
 .of_wp λprog w A R s h=>by
  obtain⟨hp,g,d,tk,os⟩:=s;obtain⟨h1,h2,h⟩:=h;have hsub:=sub_zip;have j1:Heap.IsTuple (Shared.heap ⟨hp,g,d,tk,os⟩) t ys:=h1;have j2:Heap.IsList (Shared.heap ⟨hp.push { cls:=.type "tuple_iterator",data:=.fields #[.ref t,.int 0 0] },g,d,tk,os⟩) l xs:=Heap.IsList.push h2 _
  wp_walk using wpAny_pyIter_tuple j1,xEu j2
  exact⟨_,rfl,h⟩
section
variable {P:Program}{w:World}{A:Around}{E:xVP}{s:Shared}
theorem sG {l1 l2:Addr}{o1 o2:Obj}{Pre:Shared->Prop}{Q:xVP}(c1:o1.isFreed=false)(c2:o2.isFreed=false)
  (M:Meets (Builtin.«zip.__new__» ⟨[.type "zip",.ref l1,.ref l2],[]⟩) (λ_ R s=>Pre s/\R (.ok (.ret (.ref (zg4 s.heap o1 o2).objs.size))) { s with heap:=zg5 s.heap o1 o2 }))(hp:Pre s)
  (q:∀ h',IsZip h' (s.heap.objs.size+4) (s.heap.objs.size+2) (s.heap.objs.size+3) .none->IsPair h' (s.heap.objs.size+2) (.ref s.heap.objs.size) (.ref (s.heap.objs.size+1))->IsPair h' (s.heap.objs.size+3) .none .none ->
   h'.get? s.heap.objs.size=some o1->h'.get? (s.heap.objs.size+1)=some o2->(∀ c o,s.heap.get? c=some o->h'.get? c=some o)->Q (.ref (s.heap.objs.size+4)) { s with heap:=h' }) :
  wpAny (model P w) A (call (.type "zip") [.ref l1,.ref l2]) Q E s:=by
 refine callType_new PySem.F.called_zip (by decide) (PySem.F.typeCall_zip_2 _ _) (PySem.F.newCall_zip_2 _ _) (λobj=>PySem.F.args_object_init_3 obj _ _) PySem.F.entry_zip_new M ⟨hp,?_⟩;have z1:(s.heap.push o1).objs.size=s.heap.objs.size+1:=xEa ..;have z2:(zg2 s.heap o1 o2).objs.size=s.heap.objs.size+2:=by rw[xEa,z1]
 have z3:(zg3 s.heap o1 o2).objs.size=s.heap.objs.size+3:=by rw[xEa,z2]
 have z4:(zg4 s.heap o1 o2).objs.size=s.heap.objs.size+4:=by rw[xEa,z3]
 have g5:(zg5 s.heap o1 o2).get? (zg4 s.heap o1 o2).objs.size=some _:=xAk _ rfl;have up4:∀ {c o},(zg4 s.heap o1 o2).get? c=some o->(zg5 s.heap o1 o2).get? c=some o:=λe=>xAf _ e;have g4:(zg4 s.heap o1 o2).get? (zg3 s.heap o1 o2).objs.size=some _:=xAk _ rfl;have up3:∀ {c o},(zg3 s.heap o1 o2).get? c=some o->(zg5 s.heap o1 o2).get? c=some o:=λe=>up4 (xAf _ e);have g3:(zg3 s.heap o1 o2).get? (zg2 s.heap o1 o2).objs.size=some _:=xAk _ rfl;have up2:∀ {c o},(zg2 s.heap o1 o2).get? c=some o->(zg5 s.heap o1 o2).get? c=some o:=λe=>up3 (xAf _ e);have g2:(zg2 s.heap o1 o2).get? (s.heap.push o1).objs.size=some o2:=xAk _ c2;have g1:(s.heap.push o1).get? s.heap.objs.size=some o1:=xAk _ c1;have a5:=g5;have a4:=up4 g4;have a3:=up3 g3;have a2:=up2 g2;have a1:=up2 (xAf o2 g1);show _/\_;rw[z2,z3,z4] at a5;rw[z3] at a4;rw[z1,z2] at a3;rw[z1] at a2;rw[z4];exact⟨⟨_,a5,rfl⟩,q _ a5 a3 a4 a1 a2 λc o e=>up2 (xAf _ (xAf _ e))⟩
end
def Itz (R1 R2:Hp->List V->Prop):It:=
 ⟨λi H=>∃ xs ys x y,R1 H xs/\R2 H ys/\xs[i]?=some x/\ys[i]?=some y,
   λi H v H'=>∃ (t:Addr) (x y:V),H t=none/\v=.ref t/\H'=upd H t (.tup [x,y])/\(∀ xs,R1 H xs->xs[i]?=some x)/\∀ ys,R2 H ys->ys[i]?=some y,
   λi H=>∃ xs ys,R1 H xs/\R2 H ys/\(xs.length<=i\/ys.length<=i)⟩
structure Rdz (P:Program)(w:World)(K:Frag)(R:Hp->List V->Prop)(bk:Array Value->Heap->Prop):Prop where
 rd:∀ {X:Cx}{pins:xPn}{s:Shared}{Z:St}{H:Hp}{xs:List V},X.prog=P->X.w=w->X.K=K->Inv X pins Z H s->R H xs->(∃ its:List Value,bZ xs its/\bk its.toArray s.heap)/\∀ ys,R H ys->ys=xs
theorem aEj {P:Program}{w:World}{K:Frag}(a:Addr):Rdz P w K (λH xs=>SqL K H a xs) (λus h=>h.IsList a us):=⟨λhP hw hK I h=>by
 subst hP hw hK;obtain⟨its,r,p,_⟩:=I.list h;exact⟨⟨its,r,p.isList⟩,λys hy=>I.list_inj hy h⟩⟩
theorem aJs {P:Program}{w:World}{K:Frag}(a:Addr):Rdz P w K (λH xs=>SqT K H a xs) (λus h=>h.IsTuple a us):=⟨λhP hw hK I h=>by
 subst hP hw hK;obtain⟨its,r,p,_⟩:=I.tuple h;exact⟨⟨its,r,p⟩,λys hy=>I.tuple_inj hy h⟩⟩
theorem yH {P:Program}{w:World}{K:Frag}{elts:List Expr}{x1:Nat}{tpos:Pos}{z ti to i1 i2 l1 l2:Addr}{st1 st2:Nat->Heap->Prop}{bk1 bk2:Array Value->Heap->Prop}{R1 R2:Hp->List V->Prop}
  (S1:Src P w i1 l1 st1 bk1)(S2:Src P w i2 l2 st2 bk2)(D1:Rdz P w K R1 bk1)(D2:Rdz P w K R2 bk2)(D:ZipApart z ti to i1 i2 l1 l2) :
  aAy P w K (.Tuple elts x1 tpos) (Itz R1 R2) [z,ti,to,i1,i2] z (λi h=>IsZip h z ti to .none/\IsPair h ti (.ref i1) (.ref i2)/\(∃ a b,IsPair h to a b)/\st1 i h/\st2 i h) where
 mem:=by simp
 obj:=λi h st b hb=>by
  obtain⟨h1,h2,⟨a,b',h3⟩,h4,h5⟩:=st;obtain⟨o4,v4,e4,d4⟩:=S1.ob h4;obtain⟨o5,v5,e5,d5⟩:=S2.ob h5;simp only[List.mem_cons,List.not_mem_nil,or_false] at hb;rcases hb with rfl | rfl | rfl | rfl | rfl
  ·exact⟨_,h1,λv q=>nomatch q⟩
  ·exact⟨_,h2,λv q=>nomatch q⟩
  ·exact⟨_,h3,λv q=>nomatch q⟩
  ·exact⟨_,e4,λv q=>by rw[d4] at q; cases q⟩
  ·exact⟨_,e5,λv q=>by rw[d5] at q; cases q⟩
 keep:=λi h h' st k=>by
  obtain⟨h1,h2,⟨a,b',h3⟩,h4,h5⟩:=st;exact⟨k z (by simp) _ h1,k ti (by simp) _ h2,⟨a,b',k to (by simp) _ h3⟩,S1.kp h4 (k i1 (by simp)),S2.kp h5 (k i2 (by simp))⟩
 item:=by
  intro X hP hw hK hc i pins s Z H E I hf st hg;obtain⟨xs,ys,x,y,r1,r2,hx,hy⟩:=hg;obtain⟨⟨its,rv,b1⟩,u1⟩:=D1.rd hP hw hK I r1;obtain⟨⟨jts,rw',b2⟩,u2⟩:=D2.rd hP hw hK I r2;subst hP hw hK;obtain⟨ux,hux,rx⟩:=rv.get hx;obtain⟨uy,huy,ry⟩:=rw'.get hy;obtain⟨h1,h2,⟨a,b',h3⟩,h4,h5⟩:=st;have fz:=hf z (by simp);have ft:=hf to (by simp);have f1:=hf i1 (by simp);have f2:=hf i2 (by simp);refine aLe S1 S2 D h1 h2 h3 h4 h5 b1 b2 (x:=ux) (y:=uy) (by simpa using hux) (by simpa using huy) λg1 z1 t1 w1 w2 tu sz hk=>⟨.ref s.heap.objs.size,rfl,wpAny_letOwnedTupleGo_zip z1 λg2 z2 sb=>?_⟩;have hn:H s.heap.objs.size=none:=I.hok.fresh (xAi _);have lt:∀ {c o},s.heap.get? c=some o->c≠s.heap.objs.size:=λe=>xAz (xAm e);obtain⟨o4,v4,e4,d4⟩:=S1.ob h4;obtain⟨o5,v5,e5,d5⟩:=S2.ob h5
  have kp:∀ b o,b∉[z,to,i1,i2]->s.heap.get? b=some o->g2.get? b=some o:=λb o n e=>by
   simp only[List.mem_cons,List.not_mem_nil,or_false,not_or] at n;exact (sb.2 b n.1).trans (hk b o n.1 n.2.1 n.2.2.1 n.2.2.2 e)
  have fch:∀ b∈[z,to,i1,i2],mU X pins H b:=λb hb=>hf b (by
   simp only[List.mem_cons,List.not_mem_nil,or_false] at hb ⊢;rcases hb with h | h | h | h
   ·exact .inl h
   ·exact .inr (.inr (.inl h))
   ·exact .inr (.inr (.inr (.inl h)))
   ·exact .inr (.inr (.inr (.inr h))))
  have nH:∀ b v,H b=some v->b∉[z,to,i1,i2]:=λb v q hb=>by rw[(fch b hb).1] at q; cases q
  have nS:∀ b v,H b=some v->b≠s.heap.objs.size:=λb v q=>aF q hn
  have I2:Inv X pins Z (upd H s.heap.objs.size (.tup [x,y])) { s with heap:=g2 }:=by
   refine I.step (t':=s.toks) (g':=s.gens) (d':=s.drawn) (ch:=[z,to,i1,i2]) (λb hb=>⟨(fch b hb).2.2.2.1,(fch b hb).2.1,(fch b hb).2.2.2.2.1,(fch b hb).2.2.2.2.2⟩) (λb o _ _ hc e _=>kp b o hc e) (λb o _ _ hc e _=>⟨o.slots,kp b o hc e⟩)
    (λb o _ e n=>by rw[aG (lt e)]; exact n) (λb o hc e=>⟨o,kp b o hc e⟩) (λb ys e=>by rw[aG (nS b _ e)]; exact e) (λb o v e=>by rw[aG (nS b _ e)]; exact e)
    (λb ps e=>⟨#[],by rw[aG (nS b _ e),e]; simp⟩) (λm hm=>?_) (λb v q=>?_) I.bare
   ·obtain⟨o,es,ep,ho,r⟩:=hm;exact⟨o,es,ep,kp _ o (λhb=>(fch _ hb).2.1 rfl) ho,r⟩
   ·by_cases hb:b=s.heap.objs.size
    ·subst hb;rw[aD] at q;cases q;exact⟨by show 2<=sizeLine; decide,[ux,uy],.cons rx (.cons ry .nil),⟨_,(sb.2 _ (Ne.symm (lt h1))).trans tu,rfl,_,rfl⟩⟩
    ·rw[aG hb] at q;refine (I.hok b v q).stay (λc y hc e=>kp c y ?_ e) (λc e=>by rw[aG (nS c _ e)]; exact e) λc ys e=>by rw[aG (nS c _ e)]; exact e
     rcases hc with rfl | hc
     ·exact nH c v q
     ·exact nH c _ hc
  refine⟨.ref s.heap.objs.size,_,I2,rfl,⟨s.heap.objs.size,x,y,hn,rfl,rfl,λxs' h'=>by rw[u1 xs' h']; exact hx,λys' h'=>by rw[u2 ys' h']; exact hy⟩,⟨z2,?_,⟨_,_,(sb.2 to D.TOz).trans t1⟩,S1.kp w1 λo e=>(sb.2 i1 D.i1z).trans e,S2.kp w2 λo e=>(sb.2 i2 D.i2z).trans e⟩,λb hb=>?_⟩
  ·exact kp ti _ (by simp only[List.mem_cons,List.not_mem_nil,or_false,not_or]; exact⟨D.TIz,D.TITO,D.TIi1,D.TIi2⟩) h2
  ·have nb:b≠s.heap.objs.size:=by
    simp only[List.mem_cons,List.not_mem_nil,or_false] at hb;rcases hb with rfl | rfl | rfl | rfl | rfl
    ·exact lt h1
    ·exact lt h2
    ·exact lt h3
    ·exact lt e4
    ·exact lt e5
   rw[aG nb];exact (hf b hb).1
 done:=by
  intro X hP hw hK hc i pins s Z H E I hf st hg;obtain⟨xs,ys,r1,r2,hl⟩:=hg;obtain⟨⟨its,rv,b1⟩,_⟩:=D1.rd hP hw hK I r1;obtain⟨⟨jts,rw',b2⟩,_⟩:=D2.rd hP hw hK I r2;subst hP hw hK;obtain⟨h1,h2,⟨a,b',h3⟩,h4,h5⟩:=st;have e1:=rv.length;have e2:=rw'.length
  have he:its.toArray[i]?=none\/jts.toArray[i]?=none:=by
   rcases hl with h | h
   ·exact .inl (by rw[xFr]; exact xCe.mpr (by omega))
   ·exact .inr (by rw[xFr]; exact xCe.mpr (by omega))
  refine aKj (I.ok.hd hc) S1 S2 D h1 h2 h3 h4 h5 b1 b2 he λg hk=>⟨rfl,?_⟩
  have fch:∀ b∈[z,to,i1,i2],mU X pins H b:=λb hb=>hf b (by
   simp only[List.mem_cons,List.not_mem_nil,or_false] at hb ⊢;rcases hb with h | h | h | h
   ·exact .inl h
   ·exact .inr (.inr (.inl h))
   ·exact .inr (.inr (.inr (.inl h)))
   ·exact .inr (.inr (.inr (.inr h))))
  have kp:∀ b o,b∉[z,to,i1,i2]->s.heap.get? b=some o->g.get? b=some o:=λb o n e=>by
   simp only[List.mem_cons,List.not_mem_nil,or_false,not_or] at n;exact hk b o n.1 n.2.1 n.2.2.1 n.2.2.2 e
  have nH:∀ b v,H b=some v->b∉[z,to,i1,i2]:=λb v q hb=>by rw[(fch b hb).1] at q; cases q
  refine I.step (t':=s.toks) (g':=s.gens) (d':=s.drawn) (ch:=[z,to,i1,i2]) (λb hb=>⟨(fch b hb).2.2.2.1,(fch b hb).2.1,(fch b hb).2.2.2.2.1,(fch b hb).2.2.2.2.2⟩) (λb o _ _ hc e _=>kp b o hc e) (λb o _ _ hc e _=>⟨o.slots,kp b o hc e⟩)
   (λb o _ e n=>n) (λb o hc e=>⟨o,kp b o hc e⟩) (λb ys e=>e) (λb o v e=>e) (λb ps e=>⟨#[],by rw[e]; simp⟩) (λm hm=>?_) (λb v q=>?_) I.bare
  ·obtain⟨o,es,ep,ho,r⟩:=hm;exact⟨o,es,ep,kp _ o (λhb=>(fch _ hb).2.1 rfl) ho,r⟩
  ·refine (I.hok b v q).stay (λc y hc e=>kp c y ?_ e) (λc e=>e) λc ys e=>e;rcases hc with rfl | hc
   ·exact nH c v q
   ·exact nH c _ hc
 self:=λ_ i s _ _ ⟨h1,_⟩ h=>xIc h1 h
theorem Bo.zip:bootBuiltins "zip" = some (.type "zip"):=by decide +kernel
section
variable {X:Cx}{elts:List Expr}{x1:Nat}{tpos:Pos}
inductive aVb (K:Frag)(vs:List V)(H1:Hp)(R:It->Hp->Prop):Prop
 | mk (a b:Addr)(h1:vs=[.ref a,.ref b])(h2:∃ xs,SqL K H1 a xs)(h3:∃ ys,SqT K H1 b ys)(r:R (Itz (λH xs=>SqL K H a xs) (λH ys=>SqT K H b ys)) H1)
def aSf (K:Frag)(ta:TA):TI:=λZ H R=>ta Z H λvs H1=>aVb K vs H1 R
inductive aVa (K:Frag)(vs:List V)(H1:Hp)(R:It->Hp->Prop):Prop
 | mk (a b:Addr)(h1:vs=[.ref a,.ref b])(h2:∃ xs,SqT K H1 a xs)(h3:∃ ys,SqL K H1 b ys)(r:R (Itz (λH xs=>SqT K H a xs) (λH ys=>SqL K H b ys)) H1)
def aLy (K:Frag)(ta:TA):TI:=λZ H R=>ta Z H λvs H1=>aVa K vs H1 R
theorem aOs {s:Shared}{b:Addr}(hb:b∈[s.heap.objs.size+4,s.heap.objs.size+2,s.heap.objs.size+3,s.heap.objs.size,s.heap.objs.size+1]):s.heap.objs.size<=b:=by
 simp only[List.mem_cons,List.not_mem_nil,or_false] at hb;rcases hb with rfl | rfl | rfl | rfl | rfl
 ·exact xFv ..
 ·exact xFv ..
 ·exact xFv ..
 ·exact xAi _
 ·exact xFv ..
theorem zK {l m:Expr}{ta:TA}{p pos:Pos}(hg:Gl X "zip")(hm:X.mg "zip" = none)(ha:PA X [l,m] ta)(hs:starEach [l,m] X.env=(false,eval l X.env)::starEach [m] X.env:=by rfl)(hpl:(backTo pos (starEach [m] X.env)).any (·.1)=false:=by rfl) :
  PI X (.Tuple elts x1 tpos) (.Call (.Name "zip" p) [l,m] [] pos) (aSf X.K ta):=by
 intro pins s Z H R I h;refine xCl (lQ I hg hm Bo.zip ?_ (by decide) (by decide));refine xDc (thn (ha pos pins s Z H _ I h) λus s1 ⟨vs,H1,I1,r1,a,b,e1,⟨xs,hx⟩,⟨ys,hy⟩,q⟩=>?_) hs hpl;subst e1;obtain⟨u,w',rfl,rx,ry⟩:=yE r1;cases rx;cases ry;obtain⟨its,rv,pl,_⟩:=I1.list hx;obtain⟨jts,rw',pt,_⟩:=I1.tuple hy;have a1:a<s1.heap.objs.size:=let ⟨_,e,_⟩:=pl.isList; xAm e;have a2:b<s1.heap.objs.size:=let ⟨_,e,_⟩:=pt; xAm e;refine sG (Pre:=λs=>s.heap.IsList a its.toArray/\s.heap.IsTuple b jts.toArray) rfl rfl (by simpa only[and_assoc] using aAg a b its.toArray jts.toArray) ⟨pl.isList,pt⟩ λh' z1 t1 t2 o1 o2 k=>?_;have I2:Inv X pins Z H1 { s1 with heap:=h' }:=I1.kept (t':=s1.toks) k
 exact xIc z1 ⟨s1.heap.objs.size+4,[s1.heap.objs.size+4,s1.heap.objs.size+2,s1.heap.objs.size+3,s1.heap.objs.size,s1.heap.objs.size+1],_,_,H1,rfl,I2,
  yH (yM s1.heap.objs.size a) (aDy (s1.heap.objs.size+1) b) (aEj a) (aJs b) (zipApart_new a1 a2),⟨z1,t1,⟨_,_,t2⟩,⟨_,o1,rfl,rfl⟩,⟨_,o2,rfl,rfl⟩⟩,λc hc=>I1.fpOk (aOs hc) (I1.hok.fresh (aOs hc)),q⟩
theorem aJy {l m:Expr}{ta:TA}{p pos:Pos}(hg:Gl X "zip")(hm:X.mg "zip" = none)(ha:PA X [l,m] ta)(hs:starEach [l,m] X.env=(false,eval l X.env)::starEach [m] X.env:=by rfl)(hpl:(backTo pos (starEach [m] X.env)).any (·.1)=false:=by rfl) :
  PI X (.Tuple elts x1 tpos) (.Call (.Name "zip" p) [l,m] [] pos) (aLy X.K ta):=by
 intro pins s Z H R I h;refine xCl (lQ I hg hm Bo.zip ?_ (by decide) (by decide));refine xDc (thn (ha pos pins s Z H _ I h) λus s1 ⟨vs,H1,I1,r1,a,b,e1,⟨xs,hx⟩,⟨ys,hy⟩,q⟩=>?_) hs hpl;subst e1;obtain⟨u,w',rfl,rx,ry⟩:=yE r1;cases rx;cases ry;obtain⟨its,rv,pt,_⟩:=I1.tuple hx;obtain⟨jts,rw',pl,_⟩:=I1.list hy;have a1:a<s1.heap.objs.size:=let ⟨_,e,_⟩:=pt; xAm e;have a2:b<s1.heap.objs.size:=let ⟨_,e,_⟩:=pl.isList; xAm e;refine sG (Pre:=λs=>s.heap.IsTuple a its.toArray/\s.heap.IsList b jts.toArray) rfl rfl (by simpa only[and_assoc] using aAf a b its.toArray jts.toArray) ⟨pt,pl.isList⟩ λh' z1 t1 t2 o1 o2 k=>?_;have I2:Inv X pins Z H1 { s1 with heap:=h' }:=I1.kept (t':=s1.toks) k
 exact xIc z1 ⟨s1.heap.objs.size+4,[s1.heap.objs.size+4,s1.heap.objs.size+2,s1.heap.objs.size+3,s1.heap.objs.size,s1.heap.objs.size+1],_,_,H1,rfl,I2,
  yH (aDy s1.heap.objs.size a) (yM (s1.heap.objs.size+1) b) (aJs a) (aEj b) (zipApart_new a1 a2),⟨z1,t1,⟨_,_,t2⟩,⟨_,o1,rfl,rfl⟩,⟨_,o2,rfl,rfl⟩⟩,λc hc=>I1.fpOk (aOs hc) (I1.hok.fresh (aOs hc)),q⟩
theorem xZ {R1 R2:Hp->List V->Prop}{D:Addr}{xs ys:List V}{g:TG}{tc:TT}{te:TE}{R:Hp->Prop}{Z:St}{H:Hp}(Pv:Nat->St->Hp->Prop)(h0:Pv 0 Z H)(hxy:xs.length=ys.length)
  (hl:∀ i Z H,i<=xs.length->Pv i Z H->R1 H xs/\R2 H ys)
  (hs:∀ i x y Z H t,xs[i]?=some x->ys[i]?=some y->Pv i Z H->H t=none->g (.ref t) Z (upd H t (.tup [x,y])) λZ2 H2=>tc Z2 H2 λb H3=>if b=true then te Z2 H3 λy H4=>∃ ys,H4 D=some (.lst ys)/\ys.length<sizeLine/\Pv (i+1) Z2 (upd H4 D (.lst (ys++[y]))) else Pv (i+1) Z2 H3)
  (hd:∀ Z H,Pv xs.length Z H->R H):yL (Itz R1 R2) D g tc te R Z H:=by
 refine⟨λi m Z H=>m=xs.length-i/\i<=xs.length/\Pv i Z H,⟨xs.length,by simp,xCa _,h0⟩,?_⟩;rintro i m Z H ⟨rfl,hi,p⟩;obtain⟨q1,q2⟩:=hl i Z H hi p
 by_cases hlt:i<xs.length
 ·refine .inr ⟨⟨xs,ys,xs[i],ys[i]'(by omega),q1,q2,by simp[hlt],by simp⟩,Pv (i+1),λZ' H' p'=>⟨xs.length-(i+1),by omega,rfl,hlt,p'⟩,λv H' z=>?_⟩;obtain⟨t,x,y,ht,rfl,rfl,hx,hy⟩:=z;exact hs i x y Z H t (hx xs q1) (hy ys q2) p ht
 ·have e:i=xs.length:=by omega
  subst e;exact .inl ⟨⟨xs,ys,q1,q2,.inl (xAi _)⟩,hd Z H p⟩
end
section
variable {X:Cx}
inductive aWz (K:Frag)(x y:V)(H:Hp)(Q:VK):Prop
 | mk (a:Addr)(os:List (Option Str))(h0_:x=.non)(h1_:y=.ref a)(h2_:SqL K H a (os.map λo=>(o.map V.str).getD .non))(h3_:Q (.bl (os.any λo=>o.isNone)) H)
theorem yD {us:List Value}:∀ {os:List (Option Str)},bZ (os.map λo=>(o.map V.str).getD .non) us->us.any (λv=>v==.none)=os.any λo=>o.isNone
 | [],r=>by cases r; rfl
 | o::os,r=>by
  cases r with
  | cons r1 r2=>
   rw[xEv,xEv,yD r2];cases o with
   | none=>cases r1; rfl
   | some z=>obtain⟨t,rfl⟩:=r1; rfl
theorem aRn:OpR X (compareOp .In) (aWz X.K):=by
 intro pins s Z H x y v u Q I rx ry h;obtain⟨a,os,rfl,rfl,ha,q⟩:=h;cases rx;cases ry;obtain⟨us,r1,p1,_⟩:=I.list ha;refine SeqAt.in_listAt (λy=>y==.none) p1.isList (λy hy=>?_) ⟨.bl (os.any λo=>o.isNone),H,I,?_,q⟩
 ·obtain⟨i,hi⟩:=xHn (show y∈us by simpa using hy);have l1:=r1.length;have li:i<us.length:=(xAc.mp hi).1;rw[xAa] at l1;have hoi:os[i]?=some os[i]:=xAh (by omega);obtain⟨u',e',ru⟩:=r1.get (i:=i) (x:=(os[i].map V.str).getD .non) (by rw[xAg,hoi]; rfl);rw[hi] at e';cases e';cases ho:os[i] with
  | none=>rw[ho] at ru; cases ru; exact xIm _
  | some z=>
   rw[ho] at ru;obtain⟨t,rfl⟩:=ru;exact SeqAt.EqAt.str_none z t
 ·show Value.bool _=Value.bool _;rw[<- yD r1]
  simp
section
variable {prog:Program}{w:World}{A:Around}{E:xVP}{s:Shared}
end
end
theorem aIc (a b:Value):argsOk "sum" ⟨[a,b],[]⟩:=by unfold argsOk; kernel_rfl
theorem aRy:isSubtype (.type "list") (.type "str")=pure false:=by rw[isSubtype_type]; kernel_rfl
theorem aLn:isSubtype (.type "list") (.type "bytes")=pure false:=by rw[isSubtype_type]; kernel_rfl
theorem aLo:isSubtype (.type "list") (.type "bytearray")=pure false:=by rw[isSubtype_type]; kernel_rfl
abbrev uW (us:List Value)(n:Nat):Obj:={ cls:=.type "list",data:=.seq us.toArray n }
section
variable {P:Program}{w:World}{A:Around}{R:Result->Shared->Prop}
theorem aFt {it a S:Addr}{bs:List Addr}{uss:List (List Value)}(hh:A.handled=none)(hlen:bs.length=uss.length)(ni:it≠S)(na:a≠S)(nb:∀ b∈bs,b≠S) :
  ∀ (k i:Nat) (s:Shared) (acc:Addr) (cur:List Value) (c n:Nat),bs.length-i=k->i<=bs.length->s.heap.IsListIter it a i->s.heap.IsList a (bs.map Value.ref).toArray->s.heap.get? S=some (uW [.ref acc] c) ->
   s.heap.get? acc=some (uW cur n)->acc≠S->(∀ (j:Nat) (b:Addr) (us:List Value),bs[j]?=some b->uss[j]?=some us->∃ m,s.heap.get? b=some (uW us m))->cur.length+((uss.drop i).map List.length).sum<=sizeLine ->
   (∀ s' p m,s'.gens=s.gens->s'.os=s.os->s'.drawn=s.drawn->s'.toks=s.toks->(∀ b o,b≠it->b≠S->s.heap.get? b=some o->s'.heap.get? b=some o)->(i<bs.length->s.heap.objs.size<=p)->(i=bs.length->p=acc)->s'.heap.get? p=some (uW (cur++(uss.drop i).flatten) m)->R (.ok (.ret (.ref p))) s') ->
   codeAny (model P w) A (.builtin "sum.loop" ⟨[.ref it,.ref S,rawInt 2,rawInt 0],[]⟩) R s:=by
 intro k
 induction k with
 | zero=>
  intro i s acc cur c n hk hi h1 h2 h3 h4 nS h5 hz q;have ei:i=bs.length:=by omega
  subst ei;refine xDq xJo ?_;rw[Around.under_plainId xFi _];show wpAny _ A.in1 (seqItems? (.ref S)>>=_) _ _ s;refine xAb (xCz h3 rfl ?_);show wpAny _ A.in1 (tryCatch (pyNext (.ref it)) _>>=_) _ _ s;refine xAb (xIr (xJq hh h1 h2 (by simp) λh' ex=>?_));refine xAe (q _ acc n rfl rfl rfl rfl (λb o n1 _ e=>ex b o n1 e) (λz=>xBg z (xCm _)) (λ_=>rfl) ?_);have na':acc≠it:=λz=>by obtain⟨o,e,cc,_⟩:=h1; rw[<- z,h4] at e; cases e; simp at cc
  rw[hlen,List.drop_of_length_le (xAi _),List.flatten_nil,xBm];exact ex acc _ na' h4
 | succ k ih=>
  intro i s acc cur c n hk hi h1 h2 h3 h4 nS h5 hz q;have hlt:i<bs.length:=by omega
  have hlu:i<uss.length:=by omega
  have hb:=xAh hlt;have hu:=xAh hlu;obtain⟨m,h6⟩:=h5 i _ _ hb hu;have ed:uss.drop i=uss[i]::uss.drop (i+1):=xDz hlu;rw[ed] at hz q;generalize uss[i]=us at hu h6 hz q;have nb1:=nb _ (xCt hlt);generalize bs[i]=b at hb h6 nb1;rw[xCd,List.sum_cons] at hz;have ty:∀ {d:Addr}{vs:List Value}{n':Nat},s.heap.get? d=some (uW vs n')->d≠it:=λ{d vs n'} e z=>by obtain⟨o,e',cc,_⟩:=h1; rw[<- z,e] at e'; cases e'; simp at cc
  have nai:a≠it:=λz=>by obtain⟨o,e',cc,_⟩:=h1; obtain⟨o2,e2,cc2,_⟩:=h2; rw[z,e'] at e2; cases e2; rw[cc] at cc2; simp at cc2
  refine xDq xJo ?_;rw[Around.under_plainId xFi _];show wpAny _ A.in1 (seqItems? (.ref S)>>=_) _ _ s;refine xAb (xCz h3 rfl ?_);show wpAny _ A.in1 (tryCatch (pyNext (.ref it)) _>>=_) _ _ s;refine xAb (xIr (xJm h1 h2 (x:=.ref b) (by simp[hb]) λg1 j1 sb=>?_));have k1:∀ {d o},d≠it->s.heap.get? d=some o->g1.get? d=some o:=λn e=>sb.extBut _ _ n e;have h41:=k1 (ty h4) h4;have h61:=k1 (ty h6) h6;have h31:=k1 (Ne.symm ni) h3;show wpAny _ A.in1 ((holding [Value.ref b] (binaryOp .Add (.ref acc) (.ref b))).attempt>>=_) _ _ _;refine xAb (xFg (xCu (PySem.P.add_list h41 h61 ?_ (by rw[xAw,xAw]; omega))));have sz1:g1.objs.size=s.heap.objs.size:=sb.1;have k2:∀ {d o},g1.get? d=some o->(g1.push { cls:=.type "list",data:=.seq (cur.toArray++us.toArray) }).get? d=some o:=λe=>xAf _ e;have new2:(g1.push { cls:=.type "list",data:=.seq (cur.toArray++us.toArray) }).get? g1.objs.size=some (uW (cur++us) 0):=by rw[xAk _ rfl]; simp
  have h32:=k2 h31;generalize g1.push { cls:=.type "list",data:=.seq (cur.toArray++us.toArray) }=g2 at k2 new2 h32 ⊢;show wpAny _ A.in1 (updateSeq S (λ_=>#[.ref g1.objs.size])>>=_) _ _ _;refine xAb (xHd h32 rfl ?_);have h33:=xCf (Obj.mapSeq λ_=>#[Value.ref g1.objs.size]) h32 rfl;refine xAb (xIk (xAb (xHd h33 rfl ?_)));have h34:=xCf (Obj.mapSeq λ_=>#[Value.ref g1.objs.size]) h33 rfl;have k3:∀ {d o},d≠S->g2.get? d=some o->((g2.update S (Obj.mapSeq λ_=>#[Value.ref g1.objs.size])).update S (Obj.mapSeq λ_=>#[Value.ref g1.objs.size])).get? d=some o:=λn e=>(xEn _ _ (Ne.symm n)).trans ((xEn _ _ (Ne.symm n)).trans e);generalize (g2.update S (Obj.mapSeq λ_=>#[Value.ref g1.objs.size])).update S (Obj.mapSeq λ_=>#[Value.ref g1.objs.size])=g3 at h34 k3 ⊢;have kk:∀ {d o},d≠it->d≠S->s.heap.get? d=some o->g3.get? d=some o:=λn1 n2 e=>k3 n2 (k2 (k1 n1 e));have nSn:g1.objs.size≠S:=λz=>by have:=xAm h31; rw[z] at this; exact xCm _ this
  have lt3:g1.objs.size<g3.objs.size:=xAm (k3 nSn new2);refine xAe ⟨plainId_quiet xFi _,ih (i+1) _ g1.objs.size (cur++us) _ 0 (by omega) hlt ?_ ?_ h34 (k3 nSn new2) nSn ?_ ?_ ?_⟩
  ·exact j1.at λo e=>k3 ni (k2 e)
  ·exact h2.at λo e=>kk nai na e
  ·intro j d vs hd hv;obtain⟨m',e⟩:=h5 j d vs hd hv;exact⟨m',kk (ty e) (nb d (xAu hd)) e⟩
  ·rw[xAj];omega
  ·intro s' p m' e1 e2 e3 e4 e5 e6 e8 e7;refine q s' p m' e1 e2 e3 e4 (λd o n1 n2 e=>e5 d o n1 n2 (kk n1 n2 e)) (λ_=>?_) (λz=>xBg hlt (by omega)) (by rw[xEh,<- xFn]; exact e7)
   by_cases hl:i+1<bs.length
   ·exact xAr (by rw[<- sz1]; exact xDw lt3) (e6 hl)
   ·rw[e8 (by omega),sz1];exact xAi _
end
section
variable {X:Cx}
theorem aNv {bs:List Addr}{us:List Value}(r:bZ (bs.map V.ref) us):us=bs.map Value.ref:=by
 induction bs generalizing us with
 | nil=>cases r; rfl
 | cons b bs ih=>
  cases r with
  | cons r1 r2=>
   cases r1;rw[ih r2];rfl
inductive aXr (K:Frag)(xs:List V)(H:Hp)(Q:VK):Prop
 | mk (a e:Addr)(bs:List Addr)(sss:xLL)(h0_:xs=[.ref a,.ref e])(h1_:SqL K H a (bs.map V.ref))(h2_:H e=some (.lst []))(h3_:bs.length=sss.length)(h4_:∀ (j:Nat) (b:Addr) (ss:List Str),bs[j]?=some b->sss[j]?=some ss->H b=some (.lst (ss.map V.str)))
  (h5_:0<bs.length)(h6_:(sss.map List.length).sum<=1000)(h7_:∀ p,H p=none->Q (.ref p) (upd H p (.lst (sss.flatten.map V.str))))
theorem vD:∀ {sss:xLL}{uss:List (List Value)},sss.length=uss.length->(∀ (j:Nat) ss us,sss[j]?=some ss->uss[j]?=some us->bZ (ss.map V.str) us)->bZ (sss.flatten.map V.str) uss.flatten
 | [],[],_,_=>.nil
 | [],_::_,h,_=>by simp at h
 | _::_,[],h,_=>by simp at h
 | ss::sss,us::uss,h,hv=>by
  rw[xEh,xEh,xAn];exact (hv 0 ss us rfl rfl).append (vD (by simpa using h) λj ss' us' h1 h2=>hv (j+1) ss' us' (by simpa using h1) (by simpa using h2))
theorem aHu (hc:X.calm=true):CallR X (.builtin "sum") (aXr X.K):=by
 intro pins s Z H xs us Q I r h;obtain⟨a,e,bs,sss,rfl,ha,he,hl,hs,h0,hz,q⟩:=h;obtain⟨u,w',rfl,rx,ry⟩:=yE r;cases rx;cases ry;obtain⟨its,rv,pl,_⟩:=I.list ha;have ei:=aNv rv;subst ei;obtain⟨_,ets,ne,re,_,ge⟩:=I.lstM he;cases re
 have hx:∀ j:Nat,∃ us:List Value,(∀ ss,sss[j]?=some ss->bZ (ss.map V.str) us)/\∀ b,bs[j]?=some b->∃ m,s.heap.get? b=some (uW us m):=λj=>by
  cases hj:bs[j]? with
  | none=>exact⟨[],λss hss=>by
    have:=(xAc.mp hss).1
    have:=xCe.mp hj
    omega,λb hb=>nomatch hb⟩
  | some b=>
   have hjl:=(xAc.mp hj).1;have hss:=xAh (l:=sss) (i:=j) (by omega);obtain⟨_,us,m,rr,_,g⟩:=I.lstM (hs j b _ hj hss);exact⟨us,λss h=>by rw[hss] at h; cases h; exact rr,λb' h=>by cases h; exact⟨m,g⟩⟩
 obtain⟨f,hf⟩:=Classical.axiomOfChoice hx;have hfl:((List.range bs.length).map f).length=bs.length:=by rw[xAa,xBv]
 have hfj:∀ (j:Nat) (vs:List Value),((List.range bs.length).map f)[j]?=some vs->vs=f j:=λj vs h=>by
  have hj:j<bs.length:=by have:=(xAc.mp h).1; rw[hfl] at this; exact this
  rw[xAg,xGg hj] at h;exact (xBp h).symm
 have hV:bZ (sss.flatten.map V.str) ((List.range bs.length).map f).flatten:=vD (by rw[hfl,hl]) λj ss vs h1 h2=>by rw[hfj j vs h2]; exact (hf j).1 ss h1
 have hB:∀ (j:Nat) (b:Addr) (vs:List Value),bs[j]?=some b->((List.range bs.length).map f)[j]?=some vs->∃ m,s.heap.get? b=some (uW vs m):=λj b vs h1 h2=>by rw[hfj j vs h2]; exact (hf j).2 b h1
 have hL:(((List.range bs.length).map f).map List.length).sum<=sizeLine:=by
  have e1:(((List.range bs.length).map f).map List.length).sum=((List.range bs.length).map f).flatten.length:=by rw[xGe]
  have e2:(sss.map List.length).sum=sss.flatten.length:=by rw[xGe]
  have e3:=hV.length;rw[xAa] at e3;rw[e1,<- e3,<- e2];exact xDw (xBt hz (by decide))
 generalize (List.range bs.length).map f=uss at hfl hV hB hL;clear hfj hf hx f;refine call_function_tree PySem.F.kind_sum PySem.F.plain_sum PySem.F.entry_sum (aIc _ _) ?_;unfold Builtin.«sum»;simp only[List.length_cons,List.length_nil];rw[xAy (by decide)];refine xAb (xFz (show Builtin.Builtins.bindParams "sum" ["start"] 0 ⟨[.ref e],[]⟩=pure [some (.ref e)] from rfl) (xAb (xEu pl.isList (xAb (xAe ?_)))))
 have g1:(s.heap.push { cls:=.type "list_iterator",data:=.fields #[.ref a,.int 0 0] }).get? e=some (uW [] ne):=xAf _ ge;simp only[List.forIn_cons,List.forIn_nil];refine xAb (xAb (xAb (xDv (T:="list") (b:=false) ⟨_,g1,rfl⟩ aRy ?_)));simp only[Bool.false_eq_true,if_false];refine xAe (xAb (xAb (xDv (T:="list") (b:=false) ⟨_,g1,rfl⟩ aLn ?_)));simp only[Bool.false_eq_true,if_false];refine xAe (xAb (xAb (xDv (T:="list") (b:=false) ⟨_,g1,rfl⟩ aLo ?_)));simp only[Bool.false_eq_true,if_false];refine xAe (xAe (xAb (xBu ?_)));have z1:(s.heap.push { cls:=.type "list_iterator",data:=.fields #[.ref a,.int 0 0] }).objs.size=s.heap.objs.size+1:=xEa ..;have it1:(s.heap.push { cls:=.type "list_iterator",data:=.fields #[.ref a,.int 0 0] }).get? s.heap.objs.size=some { cls:=.type "list_iterator",data:=.fields #[.ref a,.int 0 0] }:=xAk _ rfl;have up1:∀ {d o},s.heap.get? d=some o->(s.heap.push { cls:=.type "list_iterator",data:=.fields #[.ref a,.int 0 0] }).get? d=some o:=λe=>xAf _ e;generalize s.heap.push { cls:=.type "list_iterator",data:=.fields #[.ref a,.int 0 0] }=g at z1 it1 up1 g1 ⊢;have lt:∀ {d o},s.heap.get? d=some o->d<s.heap.objs.size:=λe=>xAm e;have nS:∀ {d o},s.heap.get? d=some o->d≠g.objs.size:=λe z=>by have:=lt e; rw[z,z1] at this; exact xBg this (Nat.not_lt.mpr (xEr _))
 obtain⟨oa,ga,_⟩:=id pl.isList;have up2:∀ {d o},g.get? d=some o->(g.push { cls:=.type "list",data:=.seq #[.ref e] }).get? d=some o:=λe=>xAf _ e;have hS2:(g.push { cls:=.type "list",data:=.seq #[.ref e] }).get? g.objs.size=some (uW [.ref e] 0):=xAk _ rfl;have hz2:(g.push { cls:=.type "list",data:=.seq #[.ref e] }).objs.size=s.heap.objs.size+2:=by rw[xEa,z1]
 refine xAe ⟨plainId_quiet xFi _,aFt (bs:=bs) (uss:=uss) (I.ok.hd hc) hfl.symm (λz=>xAz (xHa _) (z.trans z1)) (nS ga) (λb hb=>?_) bs.length 0 _ e [] 0 ne rfl (xCa _) ⟨_,up2 it1,rfl,rfl⟩ (pl.isList.at λo e=>up2 (up1 e)) hS2 (up2 g1) (nS ge) (λj b vs h1 h2=>let ⟨m,e⟩:=hB j b vs h1 h2; ⟨m,up2 (up1 e)⟩) (by simpa using hL) λs' p m e1 e2 e3 e4 e5 e6 _ e7=>?_⟩
 ·obtain⟨j,hj⟩:=xHn hb;have hjl:=(xAc.mp hj).1;obtain⟨m,eb⟩:=hB j b _ hj (xAh (l:=uss) (i:=j) (by omega));exact nS eb
 obtain⟨hp',gg,dd,tt,oo⟩:=s';dsimp only at e1 e2 e3 e4 e5 e6 e7 hz2;subst e1 e2 e3 e4;have hp:s.heap.objs.size<=p:=xAr (by rw[hz2]; exact xFv _ _) (e6 h0);have kp:∀ b o,s.heap.get? b=some o->hp'.get? b=some o:=λb o e=>e5 b o (xAz (lt e)) (nS e) (up2 (up1 e));have hn:H p=none:=I.hok.fresh hp;have nH:∀ b v,H b=some v->b≠p:=λb v z=>aF z hn;refine⟨.ref p,upd H p (.lst (sss.flatten.map V.str)),?_,rfl,q p hn⟩
 refine I.step (t':=s.toks) (g':=s.gens) (d':=s.drawn) (ch:=[]) (λb hb=>nomatch hb) (λb o _ _ _ e _=>kp b o e) (λb o _ _ _ e _=>⟨o.slots,kp b o e⟩) (λb o _ e n=>by rw[aG (xAz (xAq (lt e) hp))]; exact n) (λb o _ e=>⟨o,kp b o e⟩)
  (λb ys e=>by rw[aG (nH b _ e)]; exact e) (λb o v e=>by rw[aG (nH b _ e)]; exact e) (λb ps e=>⟨#[],by rw[aG (nH b _ e),e]; simp⟩) (λm' hm=>let ⟨o,es,ep,ho,r⟩:=hm; ⟨o,es,ep,kp _ o ho,r⟩) (λb v z=>?_) I.bare
 by_cases hb:b=p
 ·subst hb;rw[aD] at z;cases z;refine⟨?_,uss.flatten,m,hV,by simpa using e7⟩;have e3':=xGe (L:=sss);rw[xAa,e3'];exact xDw (xBt hz (by decide))
 ·rw[aG hb] at z;exact (I.hok b v z).stay (λc y hc e=>kp c y e) (λc e=>by rw[aG (nH c _ e)]; exact e) λc ys e=>by rw[aG (nH c _ e)]; exact e
end
section
variable {X:Cx}
end
def Kp (fr fr':List Addr)(H H':Hp)(h h':Heap):Prop:=∀ b o,h.get? b=some o->H b=none->b∉fr->h'.get? b=some o/\H' b=none/\b∉fr'
theorem Kp.trans {f1 f2 f3:List Addr}{H1 H2 H3:Hp}{h1 h2 h3:Heap}(a:Kp f1 f2 H1 H2 h1 h2)(b:Kp f2 f3 H2 H3 h2 h3):Kp f1 f3 H1 H3 h1 h3:=λc o e n f=>let ⟨x,y,z⟩:=a c o e n f; b c o x y z
structure oH (P:Program)(w:World)(K:Frag)(mg:xSO)(base:Heap)(k:Nat)(f:Addr)(sp:Sp)(outer:List Env)(s:Shared)(H:Hp):Prop where
 run:∀ (A:Around) (outer':List Env) (s':Shared) (H':Hp) (us:List Value) (vs:List V) (Q:VK) (E:XK),cL k A->rB P w K mg base A outer' s' H'->Kp (frs outer) (frs outer') H H' s.heap s'.heap->bZ vs us->sp vs H' Q E ->
  codeAny (model P w) A (.call (.ref f) ⟨us,[]⟩) (CR (CXE P w) outer' P w H' s' Q E) s'
 fn:∀ (outer':List Env) (s':Shared) (H':Hp),Kp (frs outer) (frs outer') H H' s.heap s'.heap->FnAt f s'.heap
theorem oH.later {P:Program}{w:World}{K:Frag}{mg:xSO}{base:Heap}{k:Nat}{f:Addr}{sp:Sp}{outer outer':List Env}{s s':Shared}{H H':Hp}(h:oH P w K mg base k f sp outer s H)
  (kp:Kp (frs outer) (frs outer') H H' s.heap s'.heap):oH P w K mg base k f sp outer' s' H':=
 ⟨λA o2 s2 H2 us vs Q E hr e0 k2=>h.run A o2 s2 H2 us vs Q E hr e0 (kp.trans k2),λo2 s2 H2 k2=>h.fn o2 s2 H2 (kp.trans k2)⟩
section
variable {P:Program}{w:World}{K:Frag}{mg:xSO}{base:Heap}
theorem aQi {CX:CXT}{N:List Str}{qual:Str}{scope:Scope}{f:Addr}{cd:Value}{A:Around}{outer:List Env}{s s':Shared}{H H':Hp}{E:XK}{pins:xPn}{Z:St}(I:Inv (iC CX P w K mg base N qual scope f cd A outer s H E) pins Z H' s') :
  Kp (frs outer) (frs (iC CX P w K mg base N qual scope f cd A outer s H E).stack) H H' s.heap s'.heap:=λb o e n hb=>
 ⟨I.base.keep b o e n hb (by show b∉([]:List Addr); simp),I.base.free b o e n (by show b∉([]:List Addr); simp),λz=>by
  rcases xAo.mp (show b∈s.heap.objs.size::frs outer from z) with z | z
  ·exact xBg (xAm e) (by rw[z]; exact xCm _)
  ·exact hb z⟩
abbrev SpS:=List Env->Shared->List V->Hp->VK->XK->Prop
structure uQ (P:Program)(w:World)(K:Frag)(mg:xSO)(base:Heap)(k:Nat)(f:Addr)(fd:FuncData)(ps:List Str)(sp:SpS):Prop where
 len:∀ o s vs H Q E,sp o s vs H Q E->vs.length=ps.length
 run:∀ (A:Around) (outer:List Env) (s:Shared) (H:Hp) (args:Args) (us:List Value) (vs:List V) (Q:VK) (E:XK),cL k A->rB P w K mg base A outer s H->BindsTo s fd args (ps.zip us)->bZ vs us->sp outer s vs H Q E ->
  codeAny (model P w) A (.call (.ref f) args) (CR (CXE P w) outer P w H s Q E) s
theorem okS {x qual:Str}{st:Stmt}{f:Addr}{fd:FuncData}{N ps:List Str}{k:Nat}{sp:SpS}(F:Fun K x qual st f fd)(S:aQ N ps (aB st))(len:∀ o s vs H Q E,sp o s vs H Q E->vs.length=ps.length)
  (hbody:∀ (cdv:Value) (A:Around) (outer:List Env) (s:Shared) (H:Hp) (vs:List V) (Q:VK) (E:XK),cL k (A.deeper (envOfC qual (aB st) s.heap.objs.size f cdv))->sp outer s vs H Q E ->
   (iC (CXE P w) P w K mg base N qual (aB st) f cdv A outer s H E).Body E ->
   ∃ t,PSs (iC (CXE P w) P w K mg base N qual (aB st) f cdv A outer s H E) (aI st) t/\t { nx:=λ_ H'=>Q .non H',rt:=Q } (start N vs) H):uQ P w K mg base (k+1) f fd ps sp:=
 ⟨len,λA outer s H args us vs Q E hr e0 hb hv hs=>aDj F S hr e0 hb (len _ _ _ _ _ _ hs) hv λcdv hr2=>hbody cdv A outer s H vs Q E hr2 hs sD⟩
end
section
variable {X:Cx}
theorem uL {pins:xPn}{Z:St}{H:Hp}{s:Shared}{Q:VK}{E:XK}{f:Addr}{us:List Value}(I:Inv X pins Z H s)(hx:gF (CXE X.prog X.w) X E)
  (hc:codeAny (model X.prog X.w) X.A (.call (.ref f) ⟨us,[]⟩) (CR (CXE X.prog X.w) X.stack X.prog X.w H s Q E) s):wpAny (model X.prog X.w) X.A (call (.ref f) us) (EP X pins Z Q) X.xe s:=by
 refine xFc (xDl hc λr s' hq'=>?_);cases r with
 | error e=>exact hx pins Z H s e s' I hq'
 | ok fl=>
  cases fl with
  | ret u=>exact I.after hq'
  | next=>exact False.elim hq'
  | brk=>exact False.elim hq'
  | cont=>exact False.elim hq'
inductive aNi (i:Nat)(f:Addr)(sp:Sp)(E:XK)(te:TE)(Z:St)(H:Hp)(Q:VK):Prop
 | mk (h0_:Z[i]?=some (some (.ref f)))(h1_:te Z H λv H1=>sp [v] H1 Q E)
theorem aGj {x:Str}{p pos:Pos}{i k:Nat}{f:Addr}{sp:Sp}{E:XK}{e:Expr}{te:TE}(hN:X.N[i]?=some x)(hv:X.env.scope.names.lookup x=some .local)(hx:gF (CXE X.prog X.w) X E)(hr:cL k X.A)
  (hd:∀ pins Z H s,Inv X pins Z H s->oH X.prog X.w X.K X.mg X.base k f sp X.stack s H)(he:PE X e te)(hp:oA e=false:=by rfl)(h1:(x==("__debug__" : Str))=false:=by decide)(h2:(x==("__classdict__" : Str))=false:=by decide) :
  PE X (.Call (.Name x p) [e] [] pos) (aNi i f sp E te):=by
 intro pins s Z H Q I h;obtain⟨h0,h3⟩:=h;refine xCl (thn (qG hN (.inl hv) h1 h2 pins s Z H (λv H'=>v=.ref f/\H'=H) I ⟨_,h0,rfl,rfl⟩) λu s1 h4=>?_);obtain⟨v,H',I1,r1,rfl,rfl⟩:=h4;cases r1;have kr:∀ {s2:Shared}{H2:Hp},Kp (frs X.stack) (frs X.stack) H2 H2 s2.heap s2.heap:=λb o e n hb=>⟨e,n,hb⟩;refine callWith_F ((hd _ _ _ _ I1).fn _ s1 H' kr) (thn ((pac he aH hp:PA X [e] _) pos pins s1 Z H' (λvs H1=>sp vs H1 Q E) I1 h3) λus s2 ⟨vs,H2,I2,r,q⟩=>⟨(hd _ _ _ _ I2).fn _ s2 H2 kr,?_⟩) (bY hp) rfl;exact uL I2 hx ((hd _ _ _ _ I2).run X.A X.stack s2 H2 us vs Q E hr I2.env0 kr r q)
end
structure aMu (scope:Scope)(x:Str)(NL:List Str):Prop where
 kind:scope.kind=.function
 co:scope.isCoroutine=false
 gen:scope.isGenerator=false
 cell:∀ x∈scope.names,x.2≠.cell
 loc:scope.names.lookup x=some .local
 nl:∀ x∈NL,scope.names.lookup x=some .free
def aPi (P:Program)(w:World)(K:Frag)(mg:xSO)(base:Heap)(A:Around)(outer:List Env)(q:Str)(scope:Scope)(f c':Addr)(cl:List (Str×Addr))(s:Shared)(H:Hp)(N:List Str)(E:XK):Cx where
 prog:=P
 w:=w
 K:=K
 mg:=mg
 base:=base
 A:=A.deeper (envX q scope s.heap.objs.size f (.ref c') cl)
 N:=N
 s₀:=s
 H₀:=H
 env:=envX q scope s.heap.objs.size f (.ref c') cl
 outer:=outer
 stack:=envX q scope s.heap.objs.size f (.ref c') cl::outer
 ex:=[]
 fn:=λ_=>false
 calm:=true
 pn:=[]
 xe:=λe s'=>wpAny (model P w) (A.deeper (envX q scope s.heap.objs.size f (.ref c') cl)) (leaving (envX q scope s.heap.objs.size f (.ref c') cl) e) (λ_ s''=>CXE P w outer H s E e s'') (λe' s''=>CXE P w outer H s E e' s'') s'
section
variable {P:Program}{w:World}{K:Frag}{mg:xSO}{base:Heap}{A:Around}{outer:List Env}{q:Str}{scope:Scope}{f c':Addr}{cl:List (Str×Addr)}{H:Hp}{s:Shared}{NL:List Str}{E:XK}
theorem aLq {ZL:St}{k:Nat}{params:Arguments}{body:Expr}{te:TE}{Q:VK}{x:Str}{v:V}{u:Value}(e0:rB P w K mg base A outer s H)(L:mO s.heap H (frs outer) f c' q params body scope cl NL ZL)(S:aMu scope x NL)(hc:∀ x,scope.names.lookup x=some .free->∃ a,cl.lookup x=some a)(hr:cL (k+1) A)
  (hba:∀ pm ctv,bindArgs (kla_fn "<lambda>" q params body scope cl pm (.ref c') ctv) ⟨[u],[]⟩=pure [(x,u)])(rv:cJ v u)(hb:PE (aPi P w K mg base A outer q scope f c' cl s H (x::NL) E) body te)(hq:te (some v::ZL) H Q) :
  codeAny (model P w) A (.call (.ref f) ⟨[u],[]⟩) (CR (CXE P w) outer P w H s Q E) s:=by
 obtain⟨pm,ctv,ho⟩:=L.fn;obtain⟨⟨oc,vs,t,e1,e2,e3⟩,_,_⟩:=(show cU P w H s.heap c' (.ext (eU c' q)) from e0.hok c' _ L.code)
 refine kla_callFunE hr.depth ho rfl S.co S.gen rfl ⟨c',oc,vs,t,rfl,e1,e2,e3⟩ ?_;rw[hba];refine xAe (xHl S.cell (by intro y hy; rw[xBb.mp hy]; exact S.loc) (λh₁ hns hsb=>?_) S.kind);have hk:∀ b o,s.heap.get? b=some o->h₁.get? b=some o:=λb o e=>hsb.extBut b o (xAz (xAm e)) (xAf _ e);have lim:s.heap.NoLimit:=e0.mod.nolimit.keeps λb o e=>(e0.bs b o e).1;refine⟨lim.keeps hk,?_⟩;have kc:∀ a v,s.heap.IsCell a v->h₁.IsCell a v:=λa v ⟨o,h1,h2⟩=>⟨o,hk a o h1,h2⟩
 have J:Inv (aPi P w K mg base A outer q scope f c' cl s H (x::NL) E) [] (some v::ZL) H { s with heap:=h₁,toks:=s.toks+([(x,u)]:List (Str×Value)).length }:=by
  refine⟨⟨e0.mod,S.kind,rfl,rfl,xAi _,L.inj,λx hx=>?_,λx c z _=>xBg z (by show ¬ false=true; decide),λ_=>hr.hd,Around.frames_deeper e0.frames,.inr ⟨rfl,rfl⟩,λb z=>xBg (show b∈([]:List Addr) from z) (by simp),e0.bs,e0.bsz,
   λb _ _ z=>xBg (show b∈([]:List Addr) from z) (by simp),λb z=>xBg (show b∈([]:List Addr) from z) (by simp),e0.funs,e0.frf⟩,
   rfl,e0.bare,Un.kept hk,⟨_,hns,λi y v' h1 h2 h3=>?_⟩,λx c e=>?_,e0.hok.fresh (xAi _),λx c e=>(L.cell x c e).2.1,λp hp=>xBg (show p∈([]:xPn) from hp) (by simp),e0.hok.kept hk,by show (some v::ZL).length=(x::NL).length; rw[xBd,xBd,L.len]⟩
  ·have hx:scope.names.lookup x=some .cell\/scope.names.lookup x=some .free:=hx;rcases hx with hx | hx
   ·exact xBg rfl (S.cell _ (PySem.mem_of_lookup hx))
   ·exact hc x hx
  ·cases i with
   | zero=>
    have h1:(x::NL)[0]?=some y:=h1;cases h1;cases h2;exact⟨u,rv,.inl ⟨S.loc,by simp⟩⟩
   | succ i=>
    have h1:NL[i]?=some y:=by simpa using (show (x::NL)[i+1]?=some y from h1)
    obtain⟨a,u',hx,r,hc'⟩:=L.val i y v' h1 (by simpa using h2);exact⟨u',r,.inr ⟨.inr (S.nl y (xAu h1)),a,hx,kc a _ hc'⟩⟩
  ·obtain⟨⟨v,hv⟩,_⟩:=L.cell x c e;exact⟨v,kc c v hv⟩
 show codeAny _ _ (.expr body (envX q scope s.heap.objs.size f (.ref c') cl)) _ _;refine kla_codeExpr (xCr (hb [] _ _ H Q J hq) (λv s' ⟨x,H',J',r,q'⟩=>?_) λe s' h=>h);exact⟨x,H',J'.os,J'.bare,J'.base,J'.hok,r,q'⟩
end
theorem mO.kp {h h':Heap}{H H':Hp}{fr fr':List Addr}{f c':Addr}{q:Str}{params:Arguments}{body:Expr}{scope:Scope}{cl:List (Str×Addr)}{NL:List Str}{ZL:St}(L:mO h H fr f c' q params body scope cl NL ZL)
  (k:Kp fr fr' H H' h h')(hc:H' c'=some (.ext (eU c' q))):mO h' H' fr' f c' q params body scope cl NL ZL:=by
 obtain⟨pm,ctv,e⟩:=L.fn;obtain⟨k1,k2,k3⟩:=k _ _ e L.fH L.ff;have kc:∀ x a,cl.lookup x=some a->∀ v,h.IsCell a v->h'.IsCell a v:=λx a hx v ⟨o,ho,hd⟩=>⟨o,(k a o ho (L.cell x a hx).2.1 (L.cell x a hx).2.2).1,hd⟩;refine⟨⟨pm,ctv,k1⟩,k2,k3,hc,L.inj,λx a hx=>?_,λi x v h1 h2=>?_,L.len⟩
 ·obtain⟨⟨v,hv⟩,h1,h2⟩:=L.cell x a hx;obtain⟨o,ho,_⟩:=id hv;exact⟨⟨v,kc x a hx v hv⟩,(k a o ho h1 h2).2.1,(k a o ho h1 h2).2.2⟩
 ·obtain⟨a,u,hx,r,hc⟩:=L.val i x v h1 h2;exact⟨a,u,hx,r,kc x a hx _ hc⟩
inductive aJb (c':Addr)(q:Str)(te:XK->TE)(ZL:St)(vs:List V)(H:Hp)(Q:VK)(E:XK):Prop
 | mk (v:V)(h0_:vs=[v])(h1_:H c'=some (.ext (eU c' q)))(h2_:te E (some v::ZL) H Q)
inductive SpH (P:Program)(w:World)(K:Frag)(mg:xSO)(base:Heap)(kd:Nat)(spC:Addr->Sp->Sp)(outer:List Env)(s:Shared)(vs:List V)(H:Hp)(Q:VK)(E:XK):Prop
 | mk (df:Addr)(spD:Sp)(h0_:oH P w K mg base kd df spD outer s H)(h1_:spC df spD vs H Q E)
inductive aMw (P:Addr)(pos:Pos)(q:Str)(R:Addr->Hp->Prop)(H:Hp):Prop
 | made (ps:_) (h0_:H P=some (.tbl ps)) (h1_:TriplesOk ps.toList) (h2_:codeAmong pos ps.toList=none) (h3_:∀ c' H1,H c'=none->c'≠P->H1=upd (upd H P (.tbl (ps++#[rawInt pos.line,rawInt pos.col,.ref c']))) c' (.ext (eU c' q))->R c' H1)
 | hit (ps:_) (c':Addr) (h0_:H P=some (.tbl ps)) (h1_:TriplesOk ps.toList) (h2_:codeAmong pos ps.toList=some (.ref c')) (h3_:H c'=some (.ext (eU c' q))) (h4_:R c' H)
def aTd (P:Addr)(pos:Pos)(q:Str)(spC:Addr->Sp->Sp)(js:List Nat)(te:XK->TE)(t1:TE)(v3:V)(E:XK):TE:=λZ H Q=>t1 Z H λv1 H1=>aMw P pos q (λc' H2=>∀ f,spC f (aJb c' q te (cE 0 js Z)) [v1,.ref f,v3] H2 Q E) H1
section
variable {X:Cx}
theorem aOe {f c P:Addr}{fd:FuncData}{ps:List Str}{g y x:Str}{params:Arguments}{body e1:Expr}{scope:Scope}{lpos p p3 pos:Pos}{NL:List Str}{js:List Nat}{te:XK->TE}{t1:TE}{v3:V}{u3:Value}{k kd:Nat}{spC:Addr->Sp->Sp}{E:XK}
  (F:uQ X.prog X.w X.K X.mg X.base k f fd ps (SpH X.prog X.w X.K X.mg X.base (kd+1) spC))(hr:cL k X.A)(hg:Gl X g)(hm:X.mg g=some (.ref f))(hk:keepIn X.K (.ref f)=true)(hbi:aW X.K fd ps [])(hx:gF (CXE X.prog X.w) X E)
  (hfn:∀ x,X.fn x=true)(hcode:X.env.code=.ref c)(hcd:codeHdIn X.K c P=true)(bm:jT X.mg X.base)
  (S:aMu scope x NL)(B:gI X scope NL 0 js)(hdef:defaultsOf params X.env=([],[]))(hba:∀ cl pm c' ctv u,bindArgs (kla_fn "<lambda>" (X.env.qual++"<lambda>") params body scope cl pm (.ref c') ctv) ⟨[u],[]⟩=pure [(x,u)])
  (hb:∀ (Ew:XK) A outer f c' cl s' H',cL kd (aPi X.prog X.w X.K X.mg X.base A outer (X.env.qual++"<lambda>") scope f c' cl s' H' (x::NL) Ew).A ->
   PE (aPi X.prog X.w X.K X.mg X.base A outer (X.env.qual++"<lambda>") scope f c' cl s' H' (x::NL) Ew) body (te Ew))
  (h1:PE X e1 t1)(hg3:Gl X y)(hm3:X.mg y=some u3)(r3:cJ v3 u3)(hs1:oA e1=false:=by rfl)(hdb:(g==("__debug__" : Str))=false:=by decide)(hdb3:(y==("__debug__" : Str))=false:=by decide) :
  PE X (.Call (.Name g p) [e1,.Lambda params body scope lpos,.Name y p3] [] pos) (aTd P lpos (X.env.qual++"<lambda>") spC js te t1 v3 E):=by
 intro pins s0 Z H0 Q I0 h;refine xCl (gS I0 hg hm ?_ hdb);refine callWith_K (h₀:=X.base) I0.ok.mod.kin hk ?_ (bY hs1) rfl;rw[bY hs1,bY rfl,bY rfl];show wpAny _ _ (spliced ((false,eval e1 X.env)::(false,eval (.Lambda params body scope lpos) X.env)::(false,eval (.Name y p3) X.env)::backTo pos (starEach [] X.env))) _ _ s0;refine xDd (thn (h1 pins s0 Z H0 _ I0 h) λu1 s ⟨v1,H,I,r1,hq⟩=>?_)
 have fin:∀ (fl c':Addr) (H1:Hp) (s1:Shared) (pm ctv:Value),Inv X pins Z H1 s1->(∀ f,spC f (aJb c' (X.env.qual++"<lambda>") te (cE 0 js Z)) [v1,.ref f,v3] H1 Q E)->s.heap.objs.size<=fl->H1 fl=none->H1 c'=some (.ext (eU c' (X.env.qual++"<lambda>"))) ->
   (∀ b o,s.heap.get? b=some o->H b=none->s1.heap.get? b=some o/\H1 b=none)->s1.heap.get? fl=some (kla_obj "<lambda>" (X.env.qual++"<lambda>") params body scope (dE scope X.env) pm c' ctv) ->
   wpAny (model X.prog X.w) X.A (spliced ((false,eval (.Name y p3) X.env)::backTo pos (starEach [] X.env))) (λvs s₁=>X.K.In s₁.heap/\wpAny (model X.prog X.w) X.A (call (.ref f) ([]++([u1]++([Value.ref fl]++vs)))) (EP X pins Z Q) X.xe s₁) X.xe s1:=by
  intro fl c' H1 s1 pm ctv I1 hsp hsf hfH hcx hold hfo;refine xDd (gS I1 hg3 hm3 ?_ hdb3);refine xEw ⟨I1.kIn,?_⟩;have hcl:∀ n∈cV scope,∃ a,X.env.cells.lookup n=some a:=λn hn=>I.ok.has n (B.cel n hn);have cl1:∀ x a,(dE scope X.env).lookup x=some a->X.env.cells.lookup x=some a:=iJ (cV scope) [] hcl λx a e=>by simp at e
  have hfree:∀ x,scope.names.lookup x=some .free->x∈cV scope:=λx e=>xBc.mpr ⟨(x,.free),xCc.mpr ⟨PySem.mem_of_lookup e,by simp⟩,rfl⟩
  have stkLt:∀ b∈frs X.stack,b<s.heap.objs.size:=λb hb=>by
   obtain⟨_,o,ho,_⟩:=I.stack.mem hb;exact xAm ho
  have hcell:∀ x a,X.env.cells.lookup x=some a->a∉frs X.stack:=λx a e z=>by
   rcases xAo.mp (I.stkSub a z) with z | z
   ·exact I.cne x a e z
   ·obtain⟨_,o,ho,_⟩:=I.ok.funs.mem z;exact xBg (xAq (xAm ho) (I.ok.cab x a (hfn x) e)) (xCm _)
  have L1:mO s1.heap H1 (frs X.stack) fl c' (X.env.qual++"<lambda>") params body scope (dE scope X.env) NL (cE 0 js Z):=by
   refine⟨⟨pm,ctv,hfo⟩,hfH,λz=>xBg (xAq (stkLt fl z) hsf) (xCm _),hcx,λx y a e1 e2=>I.ok.inj x y a (cl1 x a e1) (cl1 y a e2),λx a e=>?_,λi x v e1 e2=>?_,?_⟩
   ·have e':=cl1 x a e;obtain⟨v,o,ho,hd⟩:=I.cell x a e';obtain⟨k1,k2⟩:=hold a o ho (I.freeC x a e');exact⟨⟨v,o,k1,hd⟩,k2,hcell x a e'⟩
   ·unfold cE at e2;rw[xEk,xEs,xAg] at e2;cases hj:js[i]? with
    | none=>rw[hj] at e2; cases e2
    | some j=>
     rw[hj] at e2;have e2:some ((Z[j]?).join)=some (some v):=e2
     have e3:Z[j]?=some (some v):=by
      cases z:Z[j]? with
      | none=>rw[z] at e2; cases e2
      | some y=>rw[z] at e2; cases y with
       | none=>cases e2
       | some y=>cases e2; rfl
     have e4:X.N[j]?=some x:=by rw[B.at' i j hj,xFd]; exact e1
     obtain⟨hfr,_⟩:=B.fre i x (xCa _) e1;have kx:=B.cel x hfr;obtain⟨m,hm,hl⟩:=I.loc;obtain⟨u,r,l⟩:=hl j x v e4 e3 (by rcases kx with z | z; exact .inr (.inl z); exact .inr (.inr z));rcases l with⟨kk,_⟩ | ⟨kk,a,ea,o,ho,hd⟩
     ·rcases kx with k' | k' <;> rw[kk] at k' <;> cases k'
     ·obtain⟨a',ha'⟩:=gU (env:=X.env) (cV scope) [] x (.inl hfr)
      have:=cl1 x a' ha'
      rw[ea] at this;cases this;exact⟨a,u,ha',r,o,(hold a o ho (I.freeC x a ea)).1,hd⟩
   ·unfold cE;rw[xEk,xEs,xAa,B.len,xFd]
  have hc:∀ x,scope.names.lookup x=some .free->∃ a,(dE scope X.env).lookup x=some a:=λx e=>gU (env:=X.env) (cV scope) [] x (.inl (hfree x e))
  have hd:oH X.prog X.w X.K X.mg X.base (kd+1) fl (aJb c' (X.env.qual++"<lambda>") te (cE 0 js Z)) X.stack s1 H1:=by
   refine⟨λA outer' s' H' us vs Q' E' hr' e0 kp hv hsl=>?_,λouter' s' H' kp=>?_⟩
   ·obtain⟨v,rfl,hc',hte⟩:=hsl;obtain⟨u,rfl,rv⟩:=iG hv;exact aLq (k:=kd) (E:=E') e0 (L1.kp kp hc') S hc hr' (λpm ctv=>hba _ pm c' ctv u) rv (hb E' A outer' fl c' _ s' H' (hr'.deeper _)) hte
   ·exact⟨_,_,_,_,(kp _ _ hfo L1.fH L1.ff).1⟩
  have sp1:SpH X.prog X.w X.K X.mg X.base (kd+1) spC X.stack s1 [v1,.ref fl,v3] H1 Q E:=⟨fl,_,hd,hsp fl⟩;have hl:[u1,.ref fl,u3].length=ps.length:=F.len _ _ _ _ _ _ sp1
  have bt:BindsTo s1 fd ⟨[u1,.ref fl,u3],[]⟩ (ps.zip [u1,.ref fl,u3]):=by
   have:=hbi s1 [u1,.ref fl,u3] I1.kIn (by rw[xBm]; exact hl)
   rw[xBm] at this;exact this
  exact uL I1 hx (F.run X.A X.stack s1 H1 _ _ _ Q E hr I1.env0 bt (.cons r1 (.cons (show cJ (.ref fl) (.ref fl) from rfl) (.cons r3 .nil))) sp1)
 cases hq with
 | made ps hP ht hnf hte=>
  refine xDd (aAi I hcode hcd bm hP ht hnf hdef B.cel λfl c' pm ctv s1 I1 hc0 hcP hcf hcs hold hfo=>?_);have hPs:P<s.heap.objs.size:=I.hok.lt hP;have hsf:s.heap.objs.size<=fl:=xAr hcs (xDw hcf);refine fin fl c' _ s1 pm ctv I1 (hte c' _ hc0 hcP rfl) hsf ?_ aD (λb o e n=>?_) hfo
  ·rw[aG (xEj hcf),aG (xEj (xAq hPs hsf))];exact I.hok.fresh hsf
  ·have nP:b≠P:=λz=>by rw[z,hP] at n; cases n
   exact⟨hold b o nP e,by rw[aG (xAz (xAq (xAm e) hcs)),aG nP]; exact n⟩
 | hit ps c' hP ht hf hcx hR=>
  refine xDd (aEx I hcode hcd bm hP ht hf hdef B.cel λfl pm ctv s1 I1 hsf hold hfo=>?_);exact fin fl c' H s1 pm ctv I1 hR hsf (I.hok.fresh hsf) hcx (λb o e n=>⟨hold b o e,n⟩) hfo
end
def jH (d:Addr)(es:Array DictEntry)(ep:Nat)(h:Heap):Prop:=∃ o,h.get? d=some o/\o.ExactDict/\o.data=.dict es ep
section
variable {prog:Program}{w:World}{A:Around}{E:xVP}{s:Shared}{d:Addr}{es:Array DictEntry}{ep:Nat}
theorem jH.ty (x:jH d es ep s.heap):s.TypeIs (.ref d) "dict":=let ⟨o,a,b,_⟩:=x; ⟨o,a,b.1⟩
theorem jH.to {h h':Heap}(x:jH d es ep h)(k:∀ o,h.get? d=some o->h'.get? d=some o):jH d es ep h':=let ⟨o,a,b⟩:=x; ⟨o,k o a,b⟩
theorem aAn {Q:xVP}(lo:(d==sysModules)=false)(x:jH d es ep s.heap)
  (q:Q (.ref s.heap.objs.size) { s with heap:=s.heap.push { cls:=.type "dict_keyiterator",data:=.fields #[.ref d,.int 0 0,.int es.size 0,.int ep 0] } }):wpAny (model prog w) A (pyIter (.ref d)) Q E s:=by
 obtain⟨od,e1,e2,e3⟩:=id x;refine xGq x.ty F.slot_dict_iter (xCh F.slot_dict_iter x.ty F.entry_dict_iter ?_ (F.args_dict_iter_1 _)); unfold Builtin.«dict.__iter__»; refine xAb ?_;unfold Builtin.Dict.dictSlotNone; refine xAb (xJr x.ty ?_); show wpAny _ _ (pure (Value.ref d)) _ _ s;refine xAe ?_; show wpAny _ _ (Builtin.Dict.showsAll d>>=_) _ _ s;unfold Builtin.Dict.showsAll; rw[xAy (by rw[lo]; exact xAs)];refine xAb (xAe ?_); refine xAb (xFk e1 e3 ?_); refine xAb (xFf e1 e3 ?_);refine xAb (xBu (xAe ⟨_,rfl,"dict_keyiterator",_,⟨_,xAk _ rfl,rfl⟩,F.slot_dict_keyiterator_next.lookup,?_⟩)); simpa [rawInt] using q
theorem pN {it:Addr}{i:Nat}{Q:xOP}(hh:A.handled=none)(ht:s.heap.IsKeyIter it d i es.size ep)(x:jH d es ep s.heap)
  (q1:∀ e h',es[i]?=some e->h'.IsKeyIter it d (i+1) es.size ep->Heap.SameBut it s.heap h'->Q (some e.key) { s with heap:=h' })
  (q2:∀ h',es[i]?=none->Heap.ExtBut it s.heap h'->Q none { s with heap:=h' }):wpAny (model prog w) A (pyNext (.ref it)) Q E s:=by
 obtain⟨oi,i1,i2,i3⟩:=id ht;obtain⟨od,e1,e2,e3⟩:=id x;have tyI:=ht.typeIs;unfold pyNext; refine xAb (xFg (wpAny_callSpecial?_slot (name:=Str.ofString "__next__") tyI F.slot_dict_keyiterator_next (xCh F.slot_dict_keyiterator_next tyI F.entry_dict_keyiterator_next ?_ (F.args_dict_keyiterator_next_1 _))));refine xAb (xAe ?_); refine xAb ?_; refine xAb ?_
 first | refine xAb (xFu tyI (xAe ?_)) | refine xAb (xGo tyI (xAe ?_))
 refine xAb (xIs i1 i3 ?_); have ow:Builtin.Dict_items.ownsTuple "dict_keyiterator"=false:=by decide
 simp only[ow,Bool.false_eq_true,if_false]; show wpAny _ _ (if (Value.ref d==Value.none)=true then _ else _) _ _ s
 rw[xAy (show ¬ ((Value.ref d==Value.none)=true) from xAs)]; refine xAb (xAe ?_); refine xAb (xFk e1 e3 ?_)
 rw[xAy (by simp)]; refine xAb (xAe ?_); refine xAb (xFf e1 e3 ?_); rw[xAy (by simp)]; refine xAe ?_
 by_cases hl:i<es.size
 ·simp only[show ¬ ((i:Int)<0) from by omega,if_false,Int.toNat_natCast,Array.getElem?_eq_getElem hl]; refine xAb ?_
  first | refine xAb (xFu tyI (xAe ?_)) | refine xAb (xGo tyI (xAe ?_))
  refine xAb (xJt tyI ?_); show wpAny _ _ (setField (.ref it) 1 (rawInt ((i:Int)+1))>>=_) _ _ s
  refine xAb (xCy i1 i3 (by simp) ?_); have nx:(s.heap.update it (Obj.mapFields (·.setIfInBounds 1 (rawInt ((i:Int)+1))))).IsKeyIter it d (i+1) es.size ep:=
   ⟨_,xCf _ i1 (Obj.isFreed_of_fields (Obj.data_mapFields i3 _)),(Obj.cls_mapFields ..).trans i2,by rw[Obj.data_mapFields i3]; simp[rawInt]⟩
  refine xAb (xCu ?_); refine xAb (xJt (s:={ s with heap:=s.heap.update it (Obj.mapFields (·.setIfInBounds 1 (rawInt ((i:Int)+1)))) }) nx.typeIs ?_);show wpAny _ _ (pure es[i].key) _ _ _; exact xAe (xAe ⟨_,rfl,xAe (q1 _ _ (xCg hl) nx (xCb ..))⟩)
 ·have hn:es[i]?=none:=xDu (by omega);simp only[show ¬ ((i:Int)<0) from by omega,if_false,Int.toNat_natCast,hn]; refine xAb ?_
  first | refine xAb (xFu tyI (xAe ?_)) | refine xAb (xGo tyI (xAe ?_))
  show wpAny _ _ (setField (.ref it) 0 .none>>=_) _ _ s; refine xAb (xCy i1 i3 (by simp) ?_);show wpAny _ _ (newExc (.type "StopIteration") []>>=_) _ _ _; refine xAb ?_; simp only[newExc,newTuple]; refine xAb (xBu ?_ (by size_fits));refine xAb (m:=firstArgMember _ _) (xFz (a:=Value.none) (by first | rfl | (simp only[firstArgMember]; rfl)) ?_); refine xBu ?_ (by size_fits); simp only[raiseNew];refine xAb (xHt ?_); rw[show A.in1.handled=none from hh]; refine xAb (xAe (xIj ?_))
  refine xAb (xDv (T:="StopIteration") (b:=true) ⟨_,xAk _ rfl,rfl⟩ isSubtype_stop ?_); exact xAe (q2 _ hn (((xCb ..).extBut.push _).push _))
theorem aHq (hh:A.handled=none)(I:Addr)(hne:d≠I):Walks prog w A I [I,d] [I] es.size (λi v=>∃ e,es[i]?=some e/\v=e.key) (λi h=>h.IsKeyIter I d i es.size ep/\jH d es ep h) where
 sub:=λb hb=>by simp at hb; simp[hb]
 frame:=λ_ _ _ st hk=>⟨st.1.at λo e=>hk I (by simp) o e,st.2.to λo e=>hk d (by simp) o e⟩
 item:=λi s Q E hi st hQ=>pN hh st.1 st.2
  (λe h' he hi' hs=>hQ _ h' s.toks ⟨e,he,rfl⟩ ⟨hi',st.2.to λo e'=>hs.extBut d o hne e'⟩ λb o hb e'=>hs.extBut b o (λz=>hb (by simp[z])) e')
  (λh' he _=>xBg he (by simp[hi]))
 done:=λs Q E st hQ=>pN hh st.1 st.2 (λe h' he _ _=>xBg he (by simp)) λh' _ hx=>hQ h' s.toks λb o hb e'=>hx b o (λz=>hb (by simp[z])) e'
 self:=λ_ _ _ _ st hQ=>wpAny_pyIter_keyiter st.1 hQ
theorem aOx (lo:(d==sysModules)=false):KdlSrc prog w "dict" d d es.size (λi v=>∃ e,es[i]?=some e/\v=e.key) (jH d es ep) where
 type:=λ_ hm=>hm.ty
 there:=λ_ hm=>let ⟨_,e,_⟩:=hm; ⟨xAm e,xAm e⟩
 keep:=λ_ _ hm hk=>hm.to λo e=>hk d (.inl rfl) o e
 notList:=by decide
 notTuple:=by decide
 hint:=λ_ _ _ _ hm hq=>kdl_hint_dict hm.ty hq
 iter:=λ_ _ hh hm=>⟨_,_,(λ_ _ hq=>aAn lo hm hq),aHq hh _ (let ⟨_,e,_⟩:=hm; xAz (xAm e)),⟨⟨_,xAk _ rfl,rfl,rfl⟩,hm.to λ_ e=>xAf _ e⟩⟩
end
abbrev gA (H:Hp)(bs:List Addr)(rs:xLL):Prop:=Paired (λb (r:List Str)=>H b=some (.tup (r.map V.str))) bs rs
section
variable {X:Cx}
theorem aEz {H:Hp}:∀ {kvs:List (List Key×V)}{xs:List (List Key×Addr×Value)}{rs:xLL},KT H kvs xs->kvs.map (·.1)=rs.map (λr=>r.map Sum.inr)->gA H (xs.map (·.2.1)) rs
 | _,_,[],.nil,_=>.nil
 | _,_,_::_,.nil,e=>by cases e
 | _,_,[],.cons _ _,e=>by cases e
 | _,_,r::rs,.cons a b,e=>by
  have e1:=xGx e;refine .cons ?_ (aEz b e1.2);refine a.2.1.trans ((congrArg (λl=>some (HO.tup (l.map kV))) e1.1).trans ?_);show some (HO.tup ((r.map Sum.inr).map kV))=_;rw[xDx];rfl
theorem vY:∀ (bs:List Addr),bZ (bs.map V.ref) (bs.map Value.ref)
 | []=>.nil
 | _::bs=>.cons rfl (vY bs)
inductive aUx (xs:List V)(H:Hp)(Q:VK):Prop
 | mk (d:Addr)(kvs:List (List Key×V))(rs:xLL)(h0_:xs=[.ref d])(h1_:H d=some (.dT kvs))(h2_:kvs.map (·.1)=rs.map (λr=>r.map Sum.inr))(h3_:∀ (p:Addr) (bs:List Addr),H p=none->gA H bs rs->Q (.ref p) (upd H p (.lst (bs.map V.ref))))
theorem aDo (hc:X.calm=true):CallR X (.type "list") aUx:=by
 intro pins s Z H xs us Q I r h;obtain⟨d,kvs,rs,rfl,hd,hk,q⟩:=h;obtain⟨u,rfl,rx⟩:=iG r;cases rx;obtain⟨z,lo,ys,rel,o,es,ep,h1,h2,h3,h4,h5⟩:=(show cU X.prog X.w H s.heap d (.dT kvs) from I.hok d _ hd)
 have hl:kvs.length=ys.length:=Paired.length rel;have hsz:es.size=ys.length:=by rw[<- xBo,h4,xAa]
 refine kdl_call (aOx (es:=es) (ep:=ep) lo) (I.ok.hd hc) ⟨o,h1,h2,h3⟩ (by omega) λh' tk acc c' hkp hD hacc=>?_
 have ea:acc.toList=(ys.map (·.2.1)).map Value.ref:=by
  refine xFm λj=>?_;cases hj:acc.toList[j]? with
  | none=>
   have l1:acc.toList.length<=j:=xCe.mp hj
   have:=hacc.1
   rw[xBo] at l1;exact (xCe.mpr (by rw[xAa,xAa]; omega)).symm
  | some v=>
   obtain⟨e,he,rfl⟩:=hacc.2 j v (by rw[<- xBx]; exact hj);rw[<- xBx,h4,xAg] at he;cases hy:ys[j]? with
   | none=>rw[hy] at he; cases he
   | some y=>
    rw[hy] at he;cases he;rw[xDx,xAg,hy];rfl
 refine⟨.ref s.heap.objs.size,_,I.laid (t':=tk) hkp (xAi _) ?_,rfl,q _ (ys.map (·.2.1)) (I.hok.fresh (xAi _)) (aEz rel hk)⟩;refine⟨by rw[xAa,xAa]; omega,acc.toList,c',by rw[ea]; exact vY _,by simpa using hD⟩
def aQs (tk tv:TE):TE:=λZ H Q=>∀ p,H p=none->tk Z (upd H p (.dT [])) λx H1=>tv Z H1 λy H2=>H2 p=some (.dT [])/\∃ (b:Addr) (ks:List Key),x=.ref b/\H2 b=some (.tup (ks.map kV))/\Q (.ref p) (upd H2 p (.dT [(ks,y)]))
theorem aKe {pos:Pos}{k v:Expr}{tk tv:TE}(hu:X.A.units<cLine)(hk:PE X k tk)(hv:PE X v tv):PE X (.Dict [some k] [v] pos) (aQs tk tv):=by
 intro pins s Z H Q I q;have hn:=I.hok.fresh (xAi s.heap.objs.size);have I1:=I.laid (a:=s.heap.objs.size) (o:=.dT []) (h':=s.heap.push { cls:=.type "dict",data:=.dict #[] }) (t':=s.toks) (λ_ _ q=>xAf _ q) (xAi _) (aAo s.heap I.big);refine wpAny_Dict_any rfl rfl (λz=>nomatch z) (xIg (xCa _)) (pairTrees_cons_walk (thn (hk pins _ Z _ _ I1 (q _ hn)) λu s1 ⟨x,H1,I1,rx,q1⟩=>thn (hv pins s1 Z H1 _ I1 q1) λw2 s2 ⟨y,H2,I2,ry,q2⟩=>pairTrees_nil_walk ?_));obtain⟨e,b,ks,rfl,eb,q3⟩:=q2;cases rx;obtain⟨z,lo,xs,rel,dd⟩:=aQl I2.hok e;cases rel;unfold storeAll;rw[xGh];refine xAb (xAb (wpAny_dictSet_heap (knd:=tupleKind (dA X.prog X.w)) (hsz:=xCa _) hu (lU I2.hok eb) dd λh' dd' hs=>xAe ?_));show wpAny _ _ (forIn [] PUnit.unit _) _ _ _;rw[xGm];refine xAe ⟨.ref s.heap.objs.size,_,?_,rfl,q3⟩;obtain⟨q',es,ep,hq,h2,h3,h4,_,h5⟩:=dd';refine sC I2 (by rw[e]; exact True.intro) hs ⟨q',hq⟩ ⟨xAr (by decide:1<=16) (by decide),lo,_,(KT.put (.nil:KT H2 [] []) ks eb ry).keeps λc ys ec=>?_,q',es,ep,hq,h2,h3,h4,h5⟩;rw[aG (fO ec e (λz=>nomatch z))];exact ec
end
theorem wR:∀ {ss ts:List Str},ss.map V.str=ts.map V.str->ss=ts
 | [],[],_=>rfl
 | [],_::_,h=>by cases h
 | _::_,[],h=>by cases h
 | a::ss,b::ts,h=>by
  have h':=xGx h;rw[V.str.inj h'.1,wR h'.2]
theorem gA.get {H:Hp}:∀ {bs:List Addr}{rs:xLL}{i:Nat}{b:Addr},gA H bs rs->bs[i]?=some b->∃ r,rs[i]?=some r/\H b=some (.tup (r.map V.str))
 | _,_,_,_,.nil,e=>by simp at e
 | _,_,0,_,.cons r _,e=>by simp at e; subst e; exact⟨_,rfl,r⟩
 | _,_,i+1,b,.cons _ t,e=>by
  obtain⟨u,h1,h2⟩:=gA.get (i:=i) (b:=b) t (by simpa using e);exact⟨u,by simpa using h1,h2⟩
theorem gA.same {H H':Hp}{bs:List Addr}{rs:xLL}(t:gA H bs rs)(s:∀ b xs,H b=some (.tup xs)->H' b=some (.tup xs)):gA H' bs rs:=Paired.mapP t λ_ _ e=>s _ _ e
theorem gA.snoc {H:Hp}:∀ {bs:List Addr}{rs:xLL}{b:Addr}{r:List Str},gA H bs rs->H b=some (.tup (r.map V.str))->gA H (bs++[b]) (rs++[r])
 | _,_,_,_,.nil,e=>.cons e .nil
 | _,_,_,_,.cons a t,e=>.cons a (gA.snoc t e)
section
variable {X:Cx}{pins:xPn}{Z:St}{H:Hp}{s:Shared}{A:Around}
theorem aFs (I:Inv X pins Z H s){a b:Addr}{ss ts:List Str}(ha:H a=some (.tup (ss.map V.str)))(hb:H b=some (.tup (ts.map V.str)))(hu:A.units<cLine):SeqAt.EqAt A s (.ref a) (.ref b) (decide (ss=ts)):=by
 by_cases h:a=b
 ·subst h;rw[ha] at hb;rw[wR (HO.tup.inj (xBp hb)),xAv rfl];exact xIm _
 ·obtain⟨us,r1,p1,_⟩:=I.tuple (SqT.of ha);obtain⟨ws,r2,p2,_⟩:=I.tuple (SqT.of hb);have l1:=r1.length;have l2:=r2.length;rw[xAa] at l1 l2;refine SeqAt.EqAt.of_refs h ?_
  by_cases hl:ss.length=ts.length
  ·have:=SeqAt.RcAt.tuples p1 p2 hu (vJ r1 r2 hl)
   rw[xAw,xAw,<- l1,<- l2,hl,xJx,<- hl,oW ss ts hl,xEy,xJl] at this;exact this
  ·have e:(us.toArray.size==ws.toArray.size)=false:=by rw[xAw,xAw,<- l1,<- l2]; exact beq_false_of_ne hl
   have:=SeqAt.RcAt.tuples (e:=λj=>decide (ss[j]?=ts[j]?)) p1 p2 hu (λj h1 h2=>by
    have l1':(ss.take (min ss.length ts.length)).length=(ts.take (min ss.length ts.length)).length:=by rw[xAt,xAt]; omega
    have g1:j<ss.length:=by rw[l1]; simpa using h1
    have g2:j<ts.length:=by rw[l2]; simpa using h2
    obtain⟨u,e1,q1⟩:=r1.get (i:=j) (x:=.str ss[j]) (by simp[g1]);obtain⟨v,e2,q2⟩:=r2.get (i:=j) (x:=.str ts[j]) (by simp[g2]);obtain⟨t,rfl⟩:=q1;obtain⟨t',rfl⟩:=q2
    have f1:us.toArray[j]=.str ss[j] t:=by
     have:us[j]?=some us.toArray[j]:=by simp
     rw[e1] at this;exact (xBp this).symm
    have f2:ws.toArray[j]=.str ts[j] t':=by
     have:ws[j]?=some ws.toArray[j]:=by simp
     rw[e2] at this;exact (xBp this).symm
    rw[f1,f2,show decide (ss[j]?=ts[j]?)=decide (ss[j]=ts[j]) by simp[g1,g2]];intro prog w E Q hq;exact xIe hq)
   rw[e,xIv] at this;rw[xBj λz=>hl (by rw[z])];exact this
inductive aNw (K:Frag)(x y:V)(H:Hp)(Q:VK):Prop
 | mk (a l:Addr)(bs:List Addr)(ss:List Str)(rs:xLL)(h0_:x=.ref a)(h1_:y=.ref l)(h2_:H a=some (.tup (ss.map V.str)))(h3_:SqL K H l (bs.map V.ref))(h4_:gA H bs rs)(h5_:Q (.bl (!decide (ss∈rs))) H)
theorem yJ {H:Hp}{f:Value->Bool}{ss:List Str}(hf:∀ b r,H b=some (.tup (r.map V.str))->f (.ref b)=decide (r=ss)):∀ {bs:List Addr}{rs:xLL}{us:List Value},gA H bs rs->bZ (bs.map V.ref) us->us.any f=decide (ss∈rs)
 | _,_,_,.nil,.nil=>by simp
 | _,_,_,.cons a t,.cons r q=>by
  cases r;rw[xEv,yJ hf t q,hf _ _ a,xEi,xIp,xDa,xDa,xDa,xAo];exact⟨λh=>h.imp Eq.symm id,λh=>h.imp Eq.symm id⟩
theorem aGl (hu:X.A.units+1<cLine):OpR X (compareOp .NotIn) (aNw X.K):=by
 intro pins s Z H x y v u Q I rx ry h;obtain⟨a,l,bs,ss,rs,rfl,rfl,ha,hl,ht,q⟩:=h;cases rx;cases ry;obtain⟨us,r1,p1,_⟩:=I.list hl
 let f:Value->Bool:=λv=>match v with
  | .ref b=>match H b with
   | some (.tup xs)=>decide (xs=ss.map V.str)
   | _=>false
  | _=>false
 have hf:∀ b r,H b=some (.tup (r.map V.str))->f (.ref b)=decide (r=ss):=λb r e=>by
  show (match H b with | some (.tup xs)=>decide (xs=ss.map V.str) | _=>false)=_
  rw[e];show decide (r.map V.str=ss.map V.str)=_
  by_cases z:r=ss
  ·rw[z,xAv rfl,xAv rfl]
  ·rw[xBj z,xBj λy=>z (wR y)]
 refine SeqAt.notIn_listAt f p1.isList (λy hy=>?_) ⟨.bl (!decide (ss∈rs)),H,I,?_,q⟩
 ·obtain⟨i,hi⟩:=xHn (show y∈us by simpa using hy);have l1:=r1.length;have li:i<us.length:=(xAc.mp hi).1;rw[xAa] at l1;have hb:bs[i]?=some bs[i]:=xAh (by omega);obtain⟨u',e',ru⟩:=r1.get (i:=i) (x:=.ref bs[i]) (by rw[xAg,hb]; rfl);rw[hi] at e';cases e';cases ru;obtain⟨r,_,hr⟩:=ht.get hb;rw[hf _ _ hr];exact aFs I hr ha hu
 ·show Value.bool _=Value.bool _;rw[show us.toArray.any f=us.any f by simp,yJ hf ht r1]
def aWx:V->Hp->VK->Prop:=λx H Q=>∃ i:Int,x=.int i/\i.natAbs.log2<1920/\Q (.str (Str.ofString (toString i))) H
theorem aEo {e:Expr}{te:TE}{pos:Pos}(he:PE X e te):PE X (.FormattedValue e (-1) none pos) (tUn aWx te):=by
 intro pins s Z H Q I h;refine FormattedValue_plain (thn (he pins s Z H _ I h) λv s1 ⟨x,H1,I1,r1,i,e1,hi,q⟩=>?_);subst e1;obtain⟨t,rfl⟩:=r1;exact wpAny_formatField_int hi ⟨.str _,H1,I1.tok _,⟨_,rfl⟩,q⟩
end
section
variable {X:Cx}
def aQx (spC:Addr->Sp->Sp)(df:Addr)(spD:Sp)(E:XK)(t:TA):TE:=λZ H Q=>t Z H λvs H1=>spC df spD vs H1 Q E
theorem aKh {f:Addr}{fd:FuncData}{ps:List Str}{g:Str}{e:Expr}{es:List Expr}{p pos:Pos}{t:TA}{k kd:Nat}{spC:Addr->Sp->Sp}{df:Addr}{spD:Sp}{E:XK}
  (F:uQ X.prog X.w X.K X.mg X.base k f fd ps (SpH X.prog X.w X.K X.mg X.base kd spC))(hr:cL k X.A)(hg:Gl X g)(hm:X.mg g=some (.ref f))(hk:keepIn X.K (.ref f)=true)(hb:aW X.K fd ps [])(hx:gF (CXE X.prog X.w) X E)
  (hd:∀ pins Z H s,Inv X pins Z H s->oH X.prog X.w X.K X.mg X.base kd df spD X.stack s H)
  (ha:PA X (e::es) t)(hdb:(g==("__debug__" : Str))=false:=by decide)(he:starEach (e::es) X.env=(false,eval e X.env)::starEach es X.env:=by rfl)(hpl:(backTo pos (starEach es X.env)).any (·.1)=false:=by rfl) :
  PE X (.Call (.Name g p) (e::es) [] pos) (aQx spC df spD E t):=by
 intro pins s Z H Q I h;refine xCl (gS I hg hm ?_ hdb);refine xFh (h₀:=X.base) I.ok.mod.kin hk (thn (ha pos pins s Z H _ I h) λus s1 ⟨vs,H1,I1,r,q⟩=>⟨I1.kIn,?_⟩) he hpl;have sp1:SpH X.prog X.w X.K X.mg X.base kd spC X.stack s1 vs H1 Q E:=⟨df,spD,hd _ _ _ _ I1,q⟩;have hl:us.length=ps.length:=by rw[<- r.length]; exact F.len _ _ _ _ _ _ sp1
 have bt:BindsTo s1 fd ⟨us,[]⟩ (ps.zip us):=by
  have:=hb s1 us I1.kIn (by rw[xBm]; exact hl)
  rw[xBm] at this;exact this
 exact uL I1 hx (F.run X.A X.stack s1 H1 _ us vs Q E hr I1.env0 bt r sp1)
end
section
variable {X:Cx}{pins:xPn}{Z:St}{H:Hp}{s:Shared}{d:Addr}{kvs:List (List Key×V)}
theorem Inv.freezeT (I:Inv X pins Z H s)(e:H d=some (.dT kvs)):∃ o,Inv X pins Z (upd H d (.frz o (.dT kvs))) s:=by
 have hO:=I.hok d _ e;obtain⟨o,ho⟩:=hO.ex
 have ne:∀ b u,H b=some u->(∀ k,u≠.dT k)->(upd H d (.frz o (.dT kvs))) b=some u:=λb u z n=>by
  rw[aG (λy=>by rw[y,e] at z; cases z; exact n kvs rfl)];exact z
 refine⟨o,I.step (h':=s.heap) (g':=s.gens) (d':=s.drawn) (t':=s.toks) (ch:=[]) (λb hb=>nomatch hb) (λb u _ _ _ z _=>z) (λb u _ _ _ z _=>⟨u.slots,z⟩)
  (λb u _ _ n=>by rw[aG (λy=>by rw[y,e] at n; cases n)]; exact n) (λb u _ z=>⟨u,z⟩) (λb xs z=>ne b _ z λk y=>by cases y) (λb u v z=>ne b _ z λk y=>by cases y)
  (λb ps z=>⟨#[],by rw[ne b _ z λk y=>by cases y]; simp⟩) (λm hm=>hm) (λb u z=>?_) I.bare⟩
 by_cases hb:b=d
 ·subst hb;rw[aD] at z;cases z;exact⟨ho,hO.stay (λc y _ q=>q) (λc q=>ne c _ q λk y=>by cases y) λc ys q=>ne c _ q λk y=>by cases y⟩
 ·rw[aG hb] at z;exact (I.hok b u z).stay (λc y _ q=>q) (λc q=>ne c _ q λk y=>by cases y) λc ys q=>ne c _ q λk y=>by cases y
inductive aVg (v:V)(H':Hp)(Q:VK):Prop
 | mk (d:Addr)(kvs:List (List Key×V))(h1:v=.ref d)(h2:H' d=some (.dT kvs))(q:∀ o,Q v (upd H' d (.frz o (.dT kvs))))
 | no (o:Obj) (d:Addr) (kvs:List (List Key×V)) (h1:v=.ref d) (h2:H' d=some (.frz o (.dT kvs))) (q:Q v H')
def aIs (t:TE):TE:=λZ H Q=>t Z H λv H'=>aVg v H' Q
theorem tL {e:Expr}{t:TE}(h:PE X e t):PE X e (aIs t):=by
 intro pins s Z H Q I q;refine thn (h pins s Z H _ I q) λv s1 ⟨x,H1,I1,r1,q0⟩=>?_;cases q0 with
 | mk d kvs e1 e2 q1=>
  obtain⟨o,I2⟩:=I1.freezeT e2;exact⟨x,_,I2,r1,q1 o⟩
 | no o d kvs e1 e2 q1=>exact⟨x,_,I1,r1,q1⟩
theorem aLs:∀ {kvs:List (List Key×V)}{xs:List (List Key×Addr×Value)}{i:Nat}{kv:List Key×V},KT H kvs xs->kvs[i]?=some kv->∃ x,xs[i]?=some x/\kv.1=x.1/\H x.2.1=some (.tup (kv.1.map kV))
 | _,_,_,_,.nil,h=>by simp at h
 | _,_,0,_,.cons a _,h=>by simp at h; subst h; exact⟨_,rfl,a.1,a.2.1⟩
 | _,_,i+1,kv,.cons _ t,h=>by
  obtain⟨x,h1,h2⟩:=aLs (i:=i) (kv:=kv) t (by simpa using h);exact⟨x,by simpa using h1,h2⟩
theorem xT {o:Obj}{ep:Nat}(I:Inv X pins Z H s)(e:H d=some (.frz o (.dT kvs)))(hep:∃ es,o.data=.dict es ep) :
  (d==sysModules)=false/\∃ es,es.size=kvs.length/\jH d es ep s.heap/\∀ (i:Nat) (kv:List Key×V),kvs[i]?=some kv->∃ (en:DictEntry) (b:Addr),es[i]?=some en/\en.key=.ref b/\H b=some (.tup (kv.1.map kV)):=by
 obtain⟨ho,z,lo,ys,rel,o',es,ep',h1,h2,h3,h4,h5⟩:=(show cU X.prog X.w H s.heap d (.frz o (.dT kvs)) from I.hok d _ e)
 rw[ho] at h1;cases h1;obtain⟨es',he⟩:=hep;rw[he] at h3;cases h3;have hl:kvs.length=ys.length:=Paired.length rel;have hsz:es.size=ys.length:=by rw[<- xBo,h4,xAa]
 refine⟨lo,es,by omega,⟨o,ho,h2,he⟩,λi kv hk=>?_⟩;obtain⟨y,hy,e1,e2⟩:=aLs rel hk;refine⟨entryOfKey (tupleKind (dA X.prog X.w)) y,y.2.1,?_,rfl,?_⟩
 ·rw[<- xBx,h4,xAg,hy];rfl
 ·exact e2
end
def ItK (d:Addr)(o:Obj)(kvs:List (List Key×V)):It:=
 ⟨λi H=>H d=some (.frz o (.dT kvs))/\i<kvs.length,λi H x H'=>H'=H/\∃ (kv:List Key×V) (b:Addr),kvs[i]?=some kv/\x=.ref b/\H b=some (.tup (kv.1.map kV)),λi H=>H d=some (.frz o (.dT kvs))/\kvs.length<=i⟩
theorem aBl {P:Program}{w:World}{K:Frag}{tg:Expr}(d it:Addr)(o:Obj)(kvs:List (List Key×V))(ep:Nat)(hep:∃ es,o.data=.dict es ep):aAy P w K tg (ItK d o kvs) [it] it (λi h=>h.IsKeyIter it d i kvs.length ep) where
 mem:=by simp
 obj:=λi h st b hb=>by
  have e:b=it:=by simpa using hb
  subst e;obtain⟨o,e,c,d⟩:=st;exact⟨o,e,λv z=>by rw[d] at z; cases z⟩
 keep:=λi h h' st k=>by
  obtain⟨o,e,r⟩:=st;exact⟨o,k it (by simp) o e,r⟩
 item:=by
  intro X hP hw hK hc i pins s Z H E I hf st hg;subst hP hw hK;obtain⟨hd,hi⟩:=hg;obtain⟨lo,es,hsz,hat,hget⟩:=xT I hd hep;obtain⟨f0,f1,f2,f3,f4,f5⟩:=hf it (by simp);obtain⟨en,b,h1,h2,h3⟩:=hget i kvs[i] (by simp[hi]);rw[<- hsz] at st;refine pN (I.ok.hd hc) st hat (λe h' he st' sb=>?_) (λh' he _=>xBg he (by rw[h1]; simp));rw[h1] at he;cases he;have I1:Inv X pins Z H { s with heap:=h' }:=I.turned (t':=s.toks) (λb o hb e=>(sb.2 b hb).trans e) f0 f1 f3 f4 f5;obtain⟨o',e,c,dd⟩:=id st';exact⟨en.key,rfl,aFb (s:={ s with heap:=h' }) e c dd (by decide) ⟨.ref b,H,I1,h2,⟨rfl,kvs[i],b,by simp[hi],rfl,h3⟩,by rw[<- hsz]; exact st',λb hb=>(hf b hb).1⟩⟩
 done:=by
  intro X hP hw hK hc i pins s Z H E I hf st hg;subst hP hw hK;obtain⟨hd,hi⟩:=hg;obtain⟨lo,es,hsz,hat,hget⟩:=xT I hd hep;obtain⟨f0,f1,f2,f3,f4,f5⟩:=hf it (by simp);rw[<- hsz] at st hi;exact pN (I.ok.hd hc) st hat (λe h' he _ _=>xBg he (by rw[xDu hi]; simp)) λh' _ eb=>⟨rfl,I.turned (t':=s.toks) (λb o hb e=>eb b o hb e) f0 f1 f3 f4 f5⟩
 self:=λ_ _ _ _ _ st h=>wpAny_pyIter_keyiter st h
section
variable {X:Cx}{tg:Expr}
inductive aVd (x:V)(H1:Hp)(R:It->Hp->Prop):Prop
 | mk (d:Addr)(o:Obj)(kvs:List (List Key×V))(h1:x=.ref d)(h2:H1 d=some (.frz o (.dT kvs)))(r:R (ItK d o kvs) H1)
def aSg (tl:TE):TI:=λZ H R=>tl Z H λx H1=>aVd x H1 R
theorem zL {l:Expr}{tl:TE}(hl:PE X l tl):PI X tg l (aSg tl):=by
 intro pins s Z H R I h;refine thn (hl pins s Z H _ I h) λv s1 ⟨x,H1,I1,r1,q1⟩=>?_;obtain⟨d,o,kvs,e,hd,q⟩:=q1;subst e;cases r1
 have hep:∃ ep es,o.data=.dict es ep:=by
  obtain⟨ho,z,lo,ys,rel,o',es,ep',h1,h2,h3,h4,h5⟩:=(show cU X.prog X.w H1 s1.heap d (.frz o (.dT kvs)) from I1.hok d _ hd)
  rw[ho] at h1;cases h1;exact⟨ep',es,h3⟩
 obtain⟨ep,hep⟩:=hep;obtain⟨lo,es,hsz,hat,hget⟩:=xT I1 hd hep;refine aAn lo hat ?_;refine⟨s1.heap.objs.size,[s1.heap.objs.size],_,_,H1,rfl,I1.kept (t':=s1.toks) λb o e=>xAf _ e,aBl d _ o kvs ep hep,⟨_,xAk _ rfl,rfl,by rw[hsz]; rfl⟩,λb hb=>?_,q⟩;have e:b=s1.heap.objs.size:=by simpa using hb
 subst e;exact I1.fpOk (xAi _) (I1.hok.fresh (xAi _))
theorem aIa {d D:Addr}{o:Obj}{kvs:List (List Key×V)}{g:TG}{tc:TT}{te:TE}{R:Hp->Prop}{Z:St}{H:Hp}(Pv:Nat->St->Hp->Prop)(h0:Pv 0 Z H)
  (hl:∀ i Z H,i<=kvs.length->Pv i Z H->H d=some (.frz o (.dT kvs)))
  (hs:∀ i kv b Z H,kvs[i]?=some kv->H b=some (.tup (kv.1.map kV))->Pv i Z H->g (.ref b) Z H λZ2 H2=>tc Z2 H2 λb H3=>if b=true then te Z2 H3 λy H4=>∃ ys,H4 D=some (.lst ys)/\ys.length<sizeLine/\Pv (i+1) Z2 (upd H4 D (.lst (ys++[y]))) else Pv (i+1) Z2 H3)
  (hd:∀ Z H,Pv kvs.length Z H->R H):yL (ItK d o kvs) D g tc te R Z H:=by
 refine⟨λi m Z H=>m=kvs.length-i/\i<=kvs.length/\Pv i Z H,⟨kvs.length,by simp,xCa _,h0⟩,?_⟩;rintro i m Z H ⟨rfl,hi,p⟩;have q:=hl i Z H hi p
 by_cases hlt:i<kvs.length
 ·refine .inr ⟨⟨q,hlt⟩,Pv (i+1),λZ' H' p'=>⟨kvs.length-(i+1),by omega,rfl,hlt,p'⟩,λx H' y=>?_⟩;obtain⟨rfl,kv,b,e,rfl,hb⟩:=y;exact hs i kv b Z H' e hb p
 ·have e:i=kvs.length:=by omega
  subst e;exact .inl ⟨⟨q,xAi _⟩,hd Z H p⟩
theorem aHm {d:Addr}{o:Obj}{kvs:List (List Key×V)}{g:TG}{tb:TS}{D:rV}{Z:St}{H:Hp}(Pv:Nat->St->Hp->Prop)(h0:Pv 0 Z H)(hl:∀ i Z H,i<=kvs.length->Pv i Z H->H d=some (.frz o (.dT kvs)))
  (hs:∀ i kv b Z H,kvs[i]?=some kv->H b=some (.tup (kv.1.map kV))->Pv i Z H->g (.ref b) Z H λZ2 H2=>tb { D with nx:=Pv (i+1),ct:=Pv (i+1),bk:=D.nx } Z2 H2)(hd:∀ Z H,Pv kvs.length Z H->D.nx Z H) :
  ∃ W:Nat->Nat->St->Hp->Prop,(∃ m,W 0 m Z H)/\∀ i m Z H,W i m Z H ->
   ((ItK d o kvs).stop i H/\D.nx Z H)\/((ItK d o kvs).go i H/\∃ N:St->Hp->Prop,(∀ Z' H',N Z' H'->∃ m',m'<m/\W (i+1) m' Z' H')/\∀ x H',(ItK d o kvs).yld i H x H'->g x Z H' λZ2 H2=>tb { D with nx:=N,ct:=N,bk:=D.nx } Z2 H2):=by
 refine⟨λi m Z H=>m=kvs.length-i/\i<=kvs.length/\Pv i Z H,⟨kvs.length,by simp,xCa _,h0⟩,?_⟩;rintro i m Z H ⟨rfl,hi,p⟩;have q:=hl i Z H hi p
 by_cases hlt:i<kvs.length
 ·refine .inr ⟨⟨q,hlt⟩,Pv (i+1),λZ' H' p'=>⟨kvs.length-(i+1),by omega,rfl,hlt,p'⟩,λx H' y=>?_⟩;obtain⟨rfl,kv,b,e,rfl,hb⟩:=y;exact hs i kv b Z H' e hb p
 ·have e:i=kvs.length:=by omega
  subst e;exact .inl ⟨⟨q,xAi _⟩,hd Z H p⟩
theorem aKc {a b:Expr}{ta tb:TE}{pos:Pos}(ha:PE X a ta)(hb:PE X b tb):PE X (.JoinedStr [a,b] pos) (aDx [ta,tb] Str.empty):=
 λpins s Z H Q I h=>JoinedStr_many ((oZ ha (oZ hb aJx)) Str.empty pins s Z H Q I h)
end
section
variable {X:Cx}
end
section
variable {prog:Program}{w:World}{A:Around}{E:xVP}{s:Shared}
theorem aHb {Q:Int->Shared->Prop}(h:∀ i t,Q i { s with toks:=t }):wpAny (model prog w) A (pyHash .none) Q E s:=by
 unfold pyHash;refine pyHash_slot (T:="NoneType") rfl F.slot_NoneType_hash F.entry_NoneType_hash (F.args_NoneType_hash_1 _) rfl (.inl rfl) ?_;unfold Builtin.«NoneType.__hash__»;refine xAb (xAe ?_);unfold retInt;refine xCr (wpAny_ret_mkInt (Q:=λv s'=>∃ n t,v=Value.int n t/\Q (reduceHash n) s') ⟨_,_,rfl,h _ _⟩) (λfin s' ⟨v,hf,n,t,hv,hq⟩=>⟨n,t,by rw[hf,hv],hq⟩) λ_ _ x=>x
theorem aCc {Q:Bool->Shared->Prop}{stored:List Value}{K:Type} [DecidableEq K] {knd:HeapKind prog w K}(hst:∀ v∈stored,∃ k' b,v=.ref b/\knd.is s.heap k' b)(h:Q false s):wpAny (model prog w) A (tableMayTell .none stored) Q E s:=by
 unfold tableMayTell
 by_cases hs:stored.isEmpty=true
 ·rw[xBe hs]; exact xAe h
 rw[xAy hs];refine xAb (show wpAny _ _ (pure true) _ _ s from xAe ?_)
 simp only[Bool.not_true,Bool.false_eq_true,if_false];refine xAb (wpAny_forIn_list _ (λrest r s'=>s'=s/\r=(none,())/\∀ v∈rest,∃ k' b,v=.ref b/\knd.is s.heap k' b) _ ?_ ?_ _ _ ⟨rfl,rfl,hst⟩)
 ·rintro y rest r s' ⟨rfl,rfl,hr⟩;obtain⟨k',b,rfl,hb⟩:=hr y (xBk ..);refine xAb (knd.quiet hb ?_);simp only[Bool.not_true,Bool.false_eq_true,if_false];exact xAe ⟨rfl,rfl,λv hv=>hr v (xBi _ hv)⟩
 ·rintro r s' ⟨rfl,rfl,_⟩;exact xAe h
theorem aHo {d:Addr}{o:Obj}{es:Array DictEntry}{ep:Nat}{h:Int}{Q:Option Nat->Shared->Prop}{K:Type} [DecidableEq K] {knd:HeapKind prog w K}(ho:s.heap.get? d=some o)(hd:o.data=.dict es ep)
  (hk:∀ (i:Nat) (e:DictEntry),es[i]?=some e->∃ k b,e.key=.ref b/\knd.is s.heap k b/\SeqAt.EqAt A s (.ref b) .none false)(q:Q none s):wpAny (model prog w) A (dictFind d .none h) Q E s:=by
 unfold dictFind
 try with_reducible refine xCu ?_
 refine xAb (xFk ho hd ?_);dsimp only;generalize hpl:placesWithHash es.size (λi=>es[i]?.map (·.hash)) h=places
 have hin:∀ i∈places,∃ e,es[i]?=some e:=λi hi=>by
  rw[<- hpl] at hi;unfold placesWithHash at hi
  have:=xDm.mp (xCc.mp hi).1
  exact⟨_,xCg this⟩
 clear hpl
 have hst:∀ v∈places.filterMap (λi=>es[i]?.map (·.key)),∃ k b,v=.ref b/\knd.is s.heap k b:=λv hv=>by
  obtain⟨i,_,e⟩:=xBz.mp hv;obtain⟨x,hx,rfl⟩:=xDs.mp e;obtain⟨k,b,h1,h2,_⟩:=hk i x hx;exact⟨k,b,h1,h2⟩
 by_cases hall:(Value.none::places.filterMap (λi=>es[i]?.map (·.key))).all carriedByValue=true
 ·rw[xBe hall]
  have hno:places=[]:=by
   cases places with
   | nil=>rfl
   | cons i r=>
    obtain⟨e,he⟩:=hin i (xBk ..);obtain⟨k,b,h1,_⟩:=hk i e he
    have:=xBn.mp hall (.ref b) (xBi _ (xBz.mpr ⟨i,xBk ..,by rw[he,<- h1]; rfl⟩))
    cases this
  rw[hno];unfold dictWalkPlain;refine xAb ?_;rw[xGm];exact xAe (xAe q)
 rw[xAy hall];generalize places.filterMap (λi=>es[i]?.map (·.key))=stored at hst hall ⊢
 by_cases hone:(stored==[Value.none])=true <;> (first | rw[xBe hone] | rw[xAy hone]) <;> (first | refine xAb (xAe ?_) | refine xAb (aCc hst ?_)) <;> (
  rw[xAy (by simp)];refine xAb (wpAny_forIn_list _ (λrest r s'=>s'=s/\r=(none,none)/\∀ i∈rest,∃ e,es[i]?=some e) _ ?_ ?_ _ _ ⟨rfl,rfl,hin⟩)
  ·rintro i rest r s' ⟨rfl,rfl,hr⟩;obtain⟨e,he⟩:=hr i (xBk ..);have hr':∀ j∈rest,∃ e,es[j]?=some e:=λj hj=>hr j (xBi _ hj);rw[he];dsimp only
   by_cases hh:(e.hash==h)=true
   ·rw[xBe hh];obtain⟨k,b,h1,h2,h3⟩:=hk i e he;rw[h1];refine xAb (xFf ho hd (xAb (h3 _ _ _ _ (xAb (xFf ho hd ?_)))));show wpAny _ _ (if (ep != ep)=true then _ else _) _ E _
    rw[xAy (by simp)];simp only[Bool.false_eq_true,if_false];refine xAb (xGp ?_)
    first
     | exact xAe ⟨rfl,rfl,hr'⟩
     | (rw[xAy (by simp)]; exact xAe ⟨rfl,rfl,hr'⟩)
     | exact xAb (xAe (xAe ⟨rfl,rfl,hr'⟩))
   ·rw[xAy hh];exact xAe ⟨rfl,rfl,hr'⟩
  ·rintro r s' ⟨rfl,rfl,_⟩;exact xAe q)
end
section
variable {X:Cx}{pins:xPn}{Z:St}{H:Hp}{s:Shared}{A:Around}{E:xVP}{a:Addr}{kvs:List (List Key×V)}
theorem aMb {Q:xVP}(hu:A.units+1<cLine)(I:Inv X pins Z H s)(e:H a=some (.dT kvs))(h:∀ s',Inv X pins Z H s'->Q .none s'):wpAny (model X.prog X.w) A (call (.builtin "dict.get") [.ref a,.none]) Q E s:=by
 obtain⟨z,lo,ys,rel,o,es,ep,h1,h2,h3,h4,h5⟩:=(show cU X.prog X.w H s.heap a (.dT kvs) from I.hok a _ e)
 refine xCh F.slot_dict_get ⟨o,h1,h2.1⟩ F.entry_dict_get ?_ (F.args_dict_get_2 _ _);show wpAny _ _ (dictGet a .none>>=_) _ _ s;refine xAb ?_;unfold dictGet
 try with_reducible refine xCu ?_
 refine xAb (aHb λi t=>xAb (aHo (knd:=tupleKind (dA X.prog X.w)) (s:={ s with toks:=t }) h1 h3 (λj en hj=>?_) (xAe ?_)))
 ·rw[<- xBx,h4,xAg] at hj;obtain⟨y,hy,rfl⟩:=xDs.mp hj;have hl:=(xAc.mp hy).1;have hlk:j<kvs.length:=by rw[Paired.length rel]; exact hl
  obtain⟨x,hx,e1,e2⟩:=aLs rel (xAh hlk);rw[hy] at hx;cases hx;obtain⟨us,r,p,_⟩:=I.tuple (SqT.of e2);exact⟨_,y.2.1,rfl,lU I.hok e2,SeqAt.EqAt.tuple_none (s:={ s with toks:=t }) p hu⟩
 ·show wpAny _ _ (Builtin.Dict.missed a .none>>=_) _ _ _;exact xAb (wpAny_missed_other lo (xAe ⟨.none,rfl,h _ (I.tok _)⟩))
end
def aQv (td ty:TE):TE:=λZ H Q=>td Z H λx H1=>∃ a,x=.ref a/\IsD H1 a/\ty Z H1 λy H2=>(∃ o,dQ H2 a y o/\Q (o.getD .non) H2)\/(y=.non/\(∃ kvs,H2 a=some (.dT kvs))/\Q .non H2)
section
variable {X:Cx}{o e:Expr}{apos cpos:Pos}{td ty:TE}
theorem aKf (hu:X.A.units+1<cLine)(ho:PE X o td)(he:PE X e ty)(m:M1 X o "get" apos e cpos):PE X (.Call (.Attribute o "get" apos) [e] [] cpos) (aQv td ty):=by
 intro pins s Z H Q I h;refine wpAny_Call_method m.base m.few m.line xJf xFq xJw (thn (ho pins s Z H _ I h) λu s1 ⟨x,H1,I1,rx,a,ex,d,q1⟩=>?_);subst ex;obtain rfl:u=Value.ref a:=rx;obtain⟨t1,t2,_⟩:=aLx I1 d;refine⟨t1,t2,?_⟩;rw[m.trees];refine xEo rfl (xFy (xDd (thn (he pins s1 Z H1 _ I1 q1) λiv s2 ⟨y,H2,I2,ry,q2⟩=>xEw ?_)));rcases q2 with⟨ov,g,q2⟩ | ⟨rfl,⟨kvs,hd⟩,q2⟩
 ·exact aMk hu I2 g ry λw' s3 I3 rw'=>⟨_,H2,I3,rw',q2⟩
 ·cases ry;exact aMb hu I2 hd λs3 I3=>⟨.non,H2,I3,rfl,q2⟩
end
section
variable {prog:Program}{w:World}{A:Around}{E:xVP}{s:Shared}{d v:Addr}{es:Array DictEntry}{ep:Nat}
theorem aIl {Q:xVP}(hv:s.heap.IsValuesView v d)(x:jH d es ep s.heap)
  (q:Q (.ref s.heap.objs.size) { s with heap:=s.heap.push { cls:=.type "dict_valueiterator",data:=.fields #[.ref d,.int 0 0,.int es.size 0,.int ep 0] } }):wpAny (model prog w) A (pyIter (.ref v)) Q E s:=by
 obtain⟨ov,v1,v2,v3⟩:=id hv;obtain⟨od,e1,e2,e3⟩:=id x;refine xGq hv.typeIs F.slot_dict_values_iter (xCh F.slot_dict_values_iter hv.typeIs F.entry_dict_values_iter ?_ (F.args_dict_values_iter_1 _)); unfold Builtin.«dict_values.__iter__»;refine xAb (xAe (xAb ?_)); unfold Builtin.Dict_items.dictOf; refine xAb (xDp v1 v3 (x:=.ref d) rfl (xAe (xAb ?_)));unfold Builtin.Dict_items.newIterator; refine xAb (xFk e1 e3 (xAb (xFf e1 e3 ?_)));have ow:Builtin.Dict_items.ownsTuple "dict_valueiterator"=false:=by decide
 simp only[ow,Bool.false_eq_true,if_false]; refine xBu (xAe ⟨_,rfl,"dict_valueiterator",_,⟨_,xAk _ rfl,rfl⟩,F.slot_dict_valueiterator_next.lookup,?_⟩); simpa [rawInt] using q
theorem yF {it:Addr}{i:Nat}{Q:xOP}(hh:A.handled=none)(ht:s.heap.IsValIter it d i es.size ep)(x:jH d es ep s.heap)
  (q1:∀ e h',es[i]?=some e->h'.IsValIter it d (i+1) es.size ep->Heap.SameBut it s.heap h'->Q (some e.val) { s with heap:=h' })
  (q2:∀ h',es[i]?=none->Heap.ExtBut it s.heap h'->Q none { s with heap:=h' }):wpAny (model prog w) A (pyNext (.ref it)) Q E s:=by
 obtain⟨oi,i1,i2,i3⟩:=id ht;obtain⟨od,e1,e2,e3⟩:=id x;have tyI:=ht.typeIs;unfold pyNext; refine xAb (xFg (wpAny_callSpecial?_slot (name:=Str.ofString "__next__") tyI F.slot_dict_valueiterator_next (xCh F.slot_dict_valueiterator_next tyI F.entry_dict_valueiterator_next ?_ (F.args_dict_valueiterator_next_1 _))));refine xAb (xAe ?_); refine xAb ?_; refine xAb ?_
 first | refine xAb (xFt tyI (xAe ?_)) | refine xAb (xGn tyI (xAe ?_))
 refine xAb (xIs i1 i3 ?_); have ow:Builtin.Dict_items.ownsTuple "dict_valueiterator"=false:=by decide
 simp only[ow,Bool.false_eq_true,if_false]; show wpAny _ _ (if (Value.ref d==Value.none)=true then _ else _) _ _ s
 rw[xAy (show ¬ ((Value.ref d==Value.none)=true) from xAs)]; refine xAb (xAe ?_); refine xAb (xFk e1 e3 ?_)
 rw[xAy (by simp)]; refine xAb (xAe ?_); refine xAb (xFf e1 e3 ?_); rw[xAy (by simp)]; refine xAe ?_
 by_cases hl:i<es.size
 ·simp only[show ¬ ((i:Int)<0) from by omega,if_false,Int.toNat_natCast,Array.getElem?_eq_getElem hl]; refine xAb ?_
  first | refine xAb (xFt tyI (xAe ?_)) | refine xAb (xGn tyI (xAe ?_))
  refine xAb (xHe tyI ?_); show wpAny _ _ (setField (.ref it) 1 (rawInt ((i:Int)+1))>>=_) _ _ s
  refine xAb (xCy i1 i3 (by simp) ?_); have nx:(s.heap.update it (Obj.mapFields (·.setIfInBounds 1 (rawInt ((i:Int)+1))))).IsValIter it d (i+1) es.size ep:=
   ⟨_,xCf _ i1 (Obj.isFreed_of_fields (Obj.data_mapFields i3 _)),(Obj.cls_mapFields ..).trans i2,by rw[Obj.data_mapFields i3]; simp[rawInt]⟩
  refine xAb (xCu ?_); refine xAb (xHe (s:={ s with heap:=s.heap.update it (Obj.mapFields (·.setIfInBounds 1 (rawInt ((i:Int)+1)))) }) nx.typeIs (xAb (xHe (s:={ s with heap:=s.heap.update it (Obj.mapFields (·.setIfInBounds 1 (rawInt ((i:Int)+1)))) }) nx.typeIs ?_)));show wpAny _ _ (pure es[i].val) _ _ _; exact xAe (xAe ⟨_,rfl,xAe (q1 _ _ (xCg hl) nx (xCb ..))⟩)
 ·have hn:es[i]?=none:=xDu (by omega);simp only[show ¬ ((i:Int)<0) from by omega,if_false,Int.toNat_natCast,hn]; refine xAb ?_
  first | refine xAb (xFt tyI (xAe ?_)) | refine xAb (xGn tyI (xAe ?_))
  show wpAny _ _ (setField (.ref it) 0 .none>>=_) _ _ s; refine xAb (xCy i1 i3 (by simp) ?_);show wpAny _ _ (newExc (.type "StopIteration") []>>=_) _ _ _; refine xAb ?_; simp only[newExc,newTuple]; refine xAb (xBu ?_ (by size_fits));refine xAb (m:=firstArgMember _ _) (xFz (a:=Value.none) (by first | rfl | (simp only[firstArgMember]; rfl)) ?_); refine xBu ?_ (by size_fits); simp only[raiseNew];refine xAb (xHt ?_); rw[show A.in1.handled=none from hh]; refine xAb (xAe (xIj ?_))
  refine xAb (xDv (T:="StopIteration") (b:=true) ⟨_,xAk _ rfl,rfl⟩ isSubtype_stop ?_); exact xAe (q2 _ hn (((xCb ..).extBut.push _).push _))
theorem aFn (hh:A.handled=none)(I:Addr)(hne:d≠I):Walks prog w A I [I,d] [I] es.size (λi v=>∃ e,es[i]?=some e/\v=e.val) (λi h=>h.IsValIter I d i es.size ep/\jH d es ep h) where
 sub:=λb hb=>by simp at hb; simp[hb]
 frame:=λ_ _ _ st hk=>⟨let ⟨o,a,b⟩:=st.1; ⟨o,hk I (by simp) o a,b⟩,st.2.to λo e=>hk d (by simp) o e⟩
 item:=λi s Q E hi st hQ=>yF hh st.1 st.2
  (λe h' he hi' hs=>hQ _ h' s.toks ⟨e,he,rfl⟩ ⟨hi',st.2.to λo e'=>hs.extBut d o hne e'⟩ λb o hb e'=>hs.extBut b o (λz=>hb (by simp[z])) e')
  (λh' he _=>xBg he (by simp[hi]))
 done:=λs Q E st hQ=>yF hh st.1 st.2 (λe h' he _ _=>xBg he (by simp)) λh' _ hx=>hQ h' s.toks λb o hb e'=>hx b o (λz=>hb (by simp[z])) e'
 self:=λ_ _ _ _ st hQ=>wpAny_pyIter_valiter st.1 hQ
theorem aLv:KdlSrc prog w "dict_values" v d es.size (λi y=>∃ e,es[i]?=some e/\y=e.val) (λh=>h.IsValuesView v d/\jH d es ep h) where
 type:=λ_ hm=>hm.1.typeIs
 there:=λ_ hm=>⟨let ⟨_,ho,_⟩:=hm.1; xAm ho,let ⟨_,e,_⟩:=hm.2; xAm e⟩
 keep:=λ_ _ hm hk=>⟨let ⟨o,ho,x⟩:=hm.1; ⟨o,hk v (.inl rfl) o ho,x⟩,hm.2.to λo e=>hk d (.inr rfl) o e⟩
 notList:=by decide
 notTuple:=by decide
 hint:=λ_ _ _ _ hm hq=>kdl_hint_values hm.1.typeIs hq
 iter:=λ_ _ hh hm=>⟨_,_,(λ_ _ hq=>aIl hm.1 hm.2 hq),aFn hh _ (let ⟨_,e,_⟩:=hm.2; xAz (xAm e)),⟨⟨_,xAk _ rfl,rfl,rfl⟩,hm.2.to λ_ e=>xAf _ e⟩⟩
end
def aPn (v d:Addr):Heap->Prop:=λh=>h.IsValuesView v d
section
variable {X:Cx}
def aSy (td:TE):TE:=λZ H Q=>td Z H λx H1=>∃ (a:Addr) (kvs:List (List Key×V)),x=.ref a/\H1 a=some (.dT kvs)/\∀ v,H1 v=none->Q (.ref v) (upd H1 v (.ext (aPn v a)))
theorem aKd {o:Expr}{apos cpos:Pos}{td:TE}(ho:PE X o td)(hbase:attributeBase o "values" X.env (eval o X.env)=eval o X.env:=by rfl)(hline:(apos.endLine==cpos.line)=true:=by rfl):PE X (.Call (.Attribute o "values" apos) [] [] cpos) (aSy td):=by
 intro pins s Z H Q I h;refine xJc hbase hline (thn (ho pins s Z H _ I h) λu s1 ⟨x,H1,I1,rx,a,kvs,ex,hd,q⟩=>?_);subst ex;cases rx;obtain⟨z,lo,ys,rel,ob,es,ep,h1,h2,h3,h4,h5⟩:=(show cU X.prog X.w H1 s1.heap a (.dT kvs) from I1.hok a _ hd)
 have hT:s1.TypeIs (.ref a) "dict":=⟨ob,h1,h2.1⟩;refine⟨"dict","dict.values",F.plainAttrs_dict,F.slot_dict_values,F.type_dict_values,hT,λb e=>by cases e; exact⟨ob,h1,h2.2.1⟩,xEo rfl (PySem.evalArgs_none ?_)⟩;refine xCh F.slot_dict_values hT F.entry_dict_values ?_ (F.args_dict_values_1 _);unfold Builtin.«dict.values»;refine xAb ?_;unfold Builtin.Dict.noArgs;refine xAb (xJr hT (show wpAny _ _ (pure a) _ _ s1 from xAe ?_))
 show wpAny _ _ (Builtin.Dict.showsAll a>>=_) _ _ s1;unfold Builtin.Dict.showsAll;rw[xAy (by rw[lo]; exact xAs)];refine xAb (xAe (xAb (xBu (xAe ⟨_,rfl,?_⟩))));refine⟨.ref s1.heap.objs.size,_,I1.laid (t':=s1.toks) (o:=.ext (aPn s1.heap.objs.size a)) (λ_ _ q=>xAf _ q) (xAi _) ?_,rfl,q _ (I1.hok.fresh (xAi _))⟩;exact⟨⟨_,xAk _ rfl,rfl,rfl⟩,⟨_,xAk _ rfl⟩,λg1 g2 ⟨o1,p1,p2⟩ k=>⟨o1,k o1 p1,p2⟩⟩
inductive aPp (xs:List V)(H:Hp)(Q:VK):Prop
 | mk (v d:Addr)(kvs:List (List Key×V))(ss:List Str)(h0_:xs=[.ref v])(h1_:H v=some (.ext (aPn v d)))(h2_:H d=some (.dT kvs))(h3_:kvs.map (·.2)=ss.map V.str)(h4_:ss.length<64)(h5_:∀ (p:Addr) (ss':List Str),H p=none->ss'.Perm ss->sortedS ss'=true->Q (.ref p) (upd H p (.lst (ss'.map V.str))))
theorem aEy {H:Hp}:∀ {kvs:List (List Key×V)}{xs:List (List Key×Addr×Value)},KT H kvs xs->bZ (kvs.map (·.2)) (xs.map (·.2.2))
 | _,_,.nil=>.nil
 | _,_,.cons a b=>.cons a.2.2 (aEy b)
theorem xW (hc:X.calm=true):CallR X (.builtin "sorted") aPp:=by
 intro pins s Z H xs us Q I r h;obtain⟨v,d,kvs,ss,rfl,hv,hd,hks,h64,q⟩:=h;obtain⟨u,rfl,rx⟩:=iG r;cases rx;obtain⟨vw,_,_⟩:=(show cU X.prog X.w H s.heap v (.ext (aPn v d)) from I.hok v _ hv)
 obtain⟨z,lo,ys,rel,o,es,ep,h1,h2,h3,h4,h5⟩:=(show cU X.prog X.w H s.heap d (.dT kvs) from I.hok d _ hd)
 have hl:kvs.length=ys.length:=Paired.length rel;have hls:kvs.length=ss.length:=by have:=congrArg List.length hks; simpa using this
 have hsz:es.size=ys.length:=by rw[<- xBo,h4,xAa]
 refine call_function_entry kind_sorted plain_sorted entry_sorted (args_sorted1 _) ?_;unfold Builtin.«sorted»;refine xAb (m:=checkCount "sorted" 1 1 _) (xAe ?_);refine xAb (kdu_collect (A:=X.A.in1) (aLv (es:=es) (ep:=ep)) (I.ok.hd hc) ⟨vw,o,h1,h2,h3⟩ (by omega) λh' tk acc hk hacc=>?_);have hal:acc.toList.length=es.size:=by rw[xBo]; exact hacc.1
 have ea:acc.toList=ys.map (·.2.2):=by
  refine xFm λj=>?_;cases hj:acc.toList[j]? with
  | none=>exact (xCe.mpr (by rw[xAa,<- hsz,<- hal]; exact xCe.mp hj)).symm
  | some y=>
   obtain⟨e,he,rfl⟩:=hacc.2 j y (by rw[<- xBx]; exact hj);rw[<- xBx,h4,xAg] at he;obtain⟨y,hy,rfl⟩:=xDs.mp he;rw[xAg,hy];rfl
 have rv:bZ (ss.map V.str) acc.toList:=by
  rw[<- hks,ea];exact aEy rel
 have hS:=iQ rv;refine xAb (xJb ?_ (by rw[hal]; omega));have hoL:(h'.push (seqObj "list" acc.toList.toArray 0)).get? h'.objs.size=some (seqObj "list" acc.toList.toArray 0):=xAk _ rfl;refine xAb (xCu (xCh slot_list_sort ⟨_,hoL,rfl⟩ entry_list_sort (list_sort_treeK strKind_oneLt hoL hS.keysOf (λv₁ v₂ rest e=>keyKind_strs (by rw[<- e]; exact hS)) (by rw[hal]; omega) λst' a1 a2=>⟨_,rfl,?_⟩) (args_list_sort _)));obtain⟨ss',b1,b2,b3⟩:=sorted_out_str hS a1 a2;refine xAe ⟨_,rfl,?_⟩;have I1:Inv X pins Z H { s with heap:=h',toks:=tk }:=I.kept (t':=tk) hk;have hn:H h'.objs.size=none:=I1.hok.fresh (xAi _);obtain⟨e,he⟩:=sortedHeap_at (vs:=acc.toList) (out:=(arrOf st').map (·.2)) hoL;refine⟨.ref h'.objs.size,_,I1.laid (t':=tk) (λb o z=>?_) (xAi _) ?_,rfl,q _ ss' hn b2 b3⟩
 ·have hb:b<h'.objs.size:=xAm z;rw[sortedHeap_old (xAz hb) (by rw[size_push']; exact xGt hb)];exact xAf _ z
 ·exact⟨by rw[xAa,b2.length_eq,sizeLine_eq]; omega,_,e,jN b1,he⟩
end
end L2
namespace RW
def mixed (c k:Int):Int:=(((c+7919*k)*48271%2147483647)*((c+7919*k)*48271%2147483647+2*k+1))%2147483629
def cellAt (ns:List Int)(k:Nat):Int:=match ns[k]? with | some c=>mixed c k | none=>0
end RW
namespace KM
variable {α:Type} [DecidableEq α]
end KM
namespace Ky
open PySem L2 PySem.Spec PyProof.Rows PySem.W
abbrev jF:Str:="abcdefghijklmnopqrstuvwxyz"
abbrev kQ:Str:="0123456789"
theorem aDb:jF.cps.toList=List.range' 97 26:=by decide +kernel
theorem aDk:kQ.cps.toList=List.range' 48 10:=by decide +kernel
def lV (c:Nat):Bool:=decide (97<=c/\c<123)
def aLw (c:Nat):Bool:=decide (48<=c/\c<58)
def oB (c:Nat):Bool:=lV c||aLw c
theorem rF (c:Nat):decide (c∈jF.cps.toList)=lV c:=by
 rw[aDb];unfold lV;rw[xIf,List.mem_range'_1]
theorem aAe (c:Nat):decide (c∈kQ.cps.toList)=aLw c:=by
 rw[aDk];unfold aLw;rw[xIf,List.mem_range'_1]
theorem uJ (x y:Str):(x++y).cps.toList=x.cps.toList++y.cps.toList:=by
 show (x.cps++y.cps).toList=_
 simp
theorem iM (x y:Str):(x++y).length=x.length+y.length:=by
 have ln:∀ z:Str,z.cps.toList.length=z.length:=λz=>by simp[Str.length]
 rw[<- ln,uJ,xAj,ln,ln]
theorem aHc (c:Nat):decide (c∈(jF++kQ).cps.toList)=oB c:=by
 unfold oB;rw[<- rF,<- aAe,uJ,<- Bool.decide_or,xIf,xCp]
def pH (cs:List Nat):Bool:=decide (1<=cs.length/\cs.length<=8)&&(match cs with | []=>false | c::_=>lV c)&&cs.all oB
def aZ (z:Str):Bool:=pH z.cps.toList
theorem lP {z:Str}(h:aZ z=true):z.length<=8:=by
 unfold aZ pH at h;rw[xBw,xBw] at h
 have:=xAp h.1.1
 have hl:z.cps.toList.length=z.length:=by simp[Str.length]
 omega
inductive Why | noName | noDeed | twice | tooMany
 deriving DecidableEq
def uS:List Str->List Str->Option Why
 | _,[]=>none
 | seen,n::r=>if aZ n=true then (if n∈seen then some .twice else uS (seen++[n]) r) else some .noName
def iY (ss:List Str):Option Why:=if 12<ss.length then some .tooMany else uS [] ss
def lX (ss fs:List Str):Option Why:=match iY ss with
 | some k=>some k
 | none=>if fs.all (λf=>aZ f&&decide (f∈ss))=true then none else some .noDeed
def wts:List Str->Int->List (Key×V)->List (Key×V)
 | [],_,k=>k
 | s::r,w,k=>wts r (w*2) (eY k (Sum.inr s) (.int w))
def mks:List Str->List (Key×V)->List (Key×V)
 | [],k=>k
 | s::r,k=>mks r (eY k (Sum.inr s) (.bl true))
inductive oK (vs:List V)(H:Hp)(Q:VK)(x3_:XK):Prop
 | mk (c k:Int)(h0_:vs=[.int c,.int k])(h1_:Q (.int (RW.mixed c k)) H)
inductive aJf (K:xAd)(vs:List V)(H:Hp)(Q:VK)(x3_:XK):Prop
 | mk (a:Addr)(ns:List Int)(k:Nat)(h0_:vs=[.ref a,.int k])(h1_:SqL K H a (ns.map V.int))(h2_:Q (.int (RW.cellAt ns k)) H)
inductive sS (K:xAd)(vs:List V)(H:Hp)(Q:VK)(x3_:XK):Prop
 | mk (x:_)(h0_:vs=[x])(h1_:((∃ z,x=.str z/\z.length<=sizeLine/\∀ H',aO H H'->Q (.bl (aZ z)) H')\/∃ t,oF K H x t/\kitOne K t (.type "str")=some false/\Q (.bl false) H))
def ways (cl:Why->Addr)(r:Option Why)(q:Prop)(E:XK)(H:Hp):Prop:=match r with
 | none=>q
 | some k=>E (.ref (cl k)) none H
def rQ (ss:List Str):Prop:=∀ z∈ss,z.length<=1000
inductive yQ (K:xAd)(cl:Why->Addr)(vs:List V)(H:Hp)(Q:VK)(E:XK):Prop
 | mk (a:Addr)(ss:List Str)(h0_:vs=[.ref a])(h1_:SqL K H a (ss.map V.str))(h2_:rQ ss)(h3_:∀ H',aO H H'->ways cl (iY ss) (Q .non H') E H')
inductive vL (K:xAd)(vs:List V)(H:Hp)(Q:VK)(x3_:XK):Prop
 | mk (a:Addr)(ss:List Str)(h0_:vs=[.ref a])(h1_:SqL K H a (ss.map V.str))(h2_:ss.length<64)(h3_:∀ (d:Addr) (ss':List Str) H',aO H H'->H d=none->ss'.Perm ss->sortedS ss'=true->H' d=some (.dK (wts ss' 1 []))->Q (.ref d) H')
inductive rX (K:xAd)(vs:List V)(H:Hp)(Q:VK)(x3_:XK):Prop
 | mk (a:Addr)(ss:List Str)(h0_:vs=[.ref a])(h1_:SqL K H a (ss.map V.str))(h2_:ss.length<=1000)(h3_:∀ (d:Addr) H',aO H H'->H d=none->H' d=some (.dK (mks ss []))->Q (.ref d) H')
abbrev aLg:List Str:=["has","require","names","free","is_free","bits","names_of"]
inductive WAt (C:Addr)(H:Hp)(p:Addr)(kvs:List (Key×V)):Prop
 | mk (dx:_)(fs:_)(dw:_)(o:_)(h0_:H p=some (.ins C dx fs))(h1_:(∀ m∈aLg,fs.lookup m=none))(h2_:fs.lookup ("weights" : Str)=some (.ref dw))(h3_:H dw=some (.frz o (.dK kvs)))
def aBa (x:V):Prop:=(∃ z:Str,x=.str z/\z.length<=1000)\/x=.non\/x=.int 5
def dM (kvs:List (Key×V)):V->Bool
 | .str z=>aZ z&&(dC kvs (Sum.inr z)).isSome
 | _=>false
inductive aPz (K:xAd)(C:Addr)(vs:List V)(H:Hp)(Q:VK)(x3_:XK):Prop
 | mk (p:Addr)(x:V)(kvs:List (Key×V))(h0_:vs=[.ref p,x])(h1_:aBa x)(h2_:WAt C H p kvs)(h3_:∀ H',aO H H'->Q (.bl (dM kvs x)) H')
inductive jP (K:xAd)(C:Addr)(cl:Why->Addr)(vs:List V)(H:Hp)(Q:VK)(E:XK):Prop
 | mk (p b:Addr)(xs:List V)(kvs:List (Key×V))(h0_:vs=[.ref p,.ref b])(h1_:SqL K H b xs)(h2_:(∀ x∈xs,aBa x))(h3_:WAt C H p kvs)(h4_:∀ H',aO H H'->ways cl (if xs.all (dM kvs)=true then none else some .noDeed) (Q .non H') E H')
def SameBut (x:Addr)(H H':Hp):Prop:=∀ b o,b≠x->H b=some o->H' b=some o
inductive aJc (K:xAd)(C:Addr)(cl:Why->Addr)(vs:List V)(H:Hp)(Q:VK)(E:XK):Prop
 | mk (x a:Addr)(y:V)(dx:Addr)(ss fs:List Str)(h0_:vs=[.ref x,.ref a,y])(h1_:H x=some (.ins C dx []))(h2_:SqL K H a (ss.map V.str))(h3_:((y=.non/\fs=[])\/∃ b,y=.ref b/\SqL K H b (fs.map V.str)))(h4_:rQ ss)(h5_:rQ fs)(h6_:fs.length<=1000)(h7_:∀ H',SameBut x H H'->ways cl (lX ss fs) (∀ (dw df:Addr) (o:Obj) (ss':List Str),H' x=some (.ins C dx [("weights",.ref dw),("free_marks",.ref df)])->H' dw=some (.frz o (.dK (wts ss' 1 [])))->H' df=some (.dK (mks fs []))->ss'.Perm ss->sortedS ss'=true->Q .non H') E H')
section
variable {P:Program}{w:World}{K:xAd}{mg:xSO}{base:Heap}
theorem okE {x qual:Str}{st:Stmt}{f:Addr}{fd:FuncData}{N ps:List Str}{k:Nat}{sp:Sp}(F:Fun K x qual st f fd)(S:aQ N ps (aB st))(len:∀ vs H Q E,sp vs H Q E->vs.length=ps.length)
  (hbody:∀ (cdv:Value) (A:Around) (outer:List Env) (s:Shared) (H:Hp) (vs:List V) (Q:VK) (E:XK),cL k (A.deeper (envOfC qual (aB st) s.heap.objs.size f cdv))->sp vs H Q E ->
   (iC (CXE P w) P w K mg base N qual (aB st) f cdv A outer s H E).Body E ->
   ∃ t,PSs (iC (CXE P w) P w K mg base N qual (aB st) f cdv A outer s H E) (aI st) t/\t { nx:=λ_ H'=>Q .non H',rt:=Q } (start N vs) H):aY P w K mg base (CXE P w) (k+1) f fd ps sp:=by
 obtain⟨oc,od,kV,doc,pm,an,cdv,ct,osl,rfl,lk,hcd⟩:=F.ex;exact aAl lk hcd S len λA outer s H vs Q E hr hsp=>hbody cdv A outer s H vs Q E hr hsp sD
structure aMx (K:xAd)(x qual:Str)(st:Stmt)(f:Addr)(fd:FuncData):Prop where
 ex:∃ (oc:Value) (od:Option Addr) (dV kV doc pm:Value) (an:Option Addr) (cdv ct:Value) (osl:xAO),
  fd=fnOf x qual (aJ st) (aI st) (aB st) dV kV doc pm an cdv ct/\K.lookup f=some ⟨oc,od,.func fd,osl⟩/\codeIn K cdv qual=true
 kp:keepIn K (.ref f)=true
theorem aTw {x qual:Str}{st:Stmt}{f:Addr}{fd:FuncData}{N ps:List Str}{k:Nat}{sp:Sp}(F:aMx K x qual st f fd)(S:aQ N ps (aB st))(len:∀ vs H Q E,sp vs H Q E->vs.length=ps.length)
  (hbody:∀ (cdv:Value) (A:Around) (outer:List Env) (s:Shared) (H:Hp) (vs:List V) (Q:VK) (E:XK),cL k (A.deeper (envOfC qual (aB st) s.heap.objs.size f cdv))->sp vs H Q E ->
   (iC (CXE P w) P w K mg base N qual (aB st) f cdv A outer s H E).Body E ->
   ∃ t,PSs (iC (CXE P w) P w K mg base N qual (aB st) f cdv A outer s H E) (aI st) t/\t { nx:=λ_ H'=>Q .non H',rt:=Q } (start N vs) H):aY P w K mg base (CXE P w) (k+1) f fd ps sp:=by
 obtain⟨oc,od,dV,kV,doc,pm,an,cdv,ct,osl,rfl,lk,hcd⟩:=F.ex;exact aAl lk hcd S len λA outer s H vs Q E hr hsp=>hbody cdv A outer s H vs Q E hr hsp sD
end
abbrev Dr:=Str×Str×Str
structure cN (H:Hp)(d:Addr)(ds:List Dr):Prop where
 ex:∃ ts:List Addr,H d=some (.lst (ts.map V.ref))/\ts.length=ds.length/\∀ (i:Nat) (t:Addr) (x:Dr),ts[i]?=some t->ds[i]?=some x->H t=some (.tup [.str x.1,.str x.2.1,.str x.2.2])
theorem cN.same {H H':Hp}{d:Addr}{ds:List Dr}(D:cN H d ds)(sm:aO H H'):cN H' d ds:=by
 obtain⟨ts,h1,h2,h3⟩:=D.ex;exact⟨ts,sm _ _ h1,h2,λi t x a b=>sm _ _ (h3 i t x a b)⟩
theorem smu {H:Hp}{p:Addr}{o:HO}(h:H p=none):aO H (upd H p o):=λb u e=>by
 rw[aG (aF e h)];exact e
theorem jI {n:Nat}(h:n<=16000000):n<=sizeLine:=xAr h (by decide)
def gB (ds:List Dr):List Str:=ds.flatMap λx=>[x.1,x.2.2]
def cH (b:Str)(es:List Str)(ds:List Dr):List Str:=b::es++gB ds
theorem uE {ds:List Dr}{i:Nat}{x:Dr}(h:ds[i]?=some x):gB (ds.take (i+1))=gB (ds.take i)++[x.1]++[x.2.2]:=by
 unfold gB;rw[xBl,h]
 simp
theorem nV (ds:List Dr):(gB ds).length=2*ds.length:=by
 induction ds with
 | nil=>rfl
 | cons x r ih => 
  have e:gB (x::r)=[x.1,x.2.2]++gB r:=rfl;have h2:([x.1,x.2.2]:List Str).length=2:=rfl;rw[e,xAj,ih,h2,xBd];omega
inductive aEa (vs:List V)(H:Hp)(Q:VK)(E:XK):Prop
 | mk (b:Str)(e d:Addr)(es:List Str)(ds:List Dr)(h0_:vs=[.str b,.ref e,.ref d])(h1_:H e=some (.lst (es.map V.str)))(h2_:cN H d ds)(h3_:es.length<=1000)(h4_:ds.length<=1000)
  (h5_:∀ (p:Addr) H',aO H H'->H p=none->H' p=some (.lst ((cH b es ds).map V.str))->Q (.ref p) H')
def iT (ss:List Str):Option Why:=if ss.all aZ=true then none else some .noName
inductive sR (K:xAd)(cl:Why->Addr)(vs:List V)(H:Hp)(Q:VK)(E:XK):Prop
 | mk (a:Addr)(ss:List Str)(h0_:vs=[.ref a])(h1_:SqL K H a (ss.map V.str))(h2_:rQ ss)(h3_:∀ H',aO H H'->ways cl (iT ss) (Q .non H') E H')
theorem vA {ss:List Str}{i:Nat}(h:(ss.take i).all aZ=true):iT ss=iT (ss.drop i):=by
 unfold iT
 have e:ss.all aZ=(ss.drop i).all aZ:=by
  conv=>lhs; rw[<- List.take_append_drop i ss]
  rw[xIo,h,xGz]
 rw[e]
def inn (ds:List Dr)(z:Str):List (Key×V):=ds.filterMap λx=>if x.1=z then some (Sum.inr x.2.1,V.str x.2.2) else none
theorem aPc (ds:List Dr)(z:Str):(inn ds z).length<=ds.length:=xCx ..
theorem aAj {ds:List Dr}{i:Nat}{x:Dr}(h:ds[i]?=some x)(z:Str):inn (ds.take (i+1)) z=inn (ds.take i) z++(if x.1=z then [(Sum.inr x.2.1,V.str x.2.2)] else []):=by
 unfold inn;rw[xBl,h,xDi]
 by_cases e:x.1=z
 ·simp[e]
 ·simp[e]
theorem aFo {kvs:List (Key×V)}{k:Key}(h:∀ p∈kvs,p.1≠k):dC kvs k=none:=by
 unfold dC;rw[xGk.mpr (λp hp=>by simpa using h p hp)];rfl
theorem aAk {ds:List Dr}{z y:Str}(h:∀ x∈ds,x.1=z->x.2.1≠y):dC (inn ds z) (Sum.inr y)=none:=by
 refine aFo λp hp=>?_;obtain⟨x,hx,e⟩:=xBz.mp hp
 by_cases ez:x.1=z
 ·rw[xBe ez] at e;cases e;exact λq=>h x hx ez (Sum.inr.inj q)
 ·rw[xAy ez] at e;cases e
def Apart (ds:List Dr):Prop:=(ds.map λx=>(x.1,x.2.1)).Nodup
theorem Apart.at {ds:List Dr}(h:Apart ds){i:Nat}{x:Dr}(hx:ds[i]?=some x):∀ y∈ds.take i,y.1=x.1->y.2.1≠x.2.1:=by
 intro y hy e1 e2;obtain⟨j,hj,ej⟩:=xHm.mp hy;rw[xAt] at hj;have hi:i<ds.length:=(xAc.mp hx).1;have hji:j<i:=by omega
 have ey:ds[j]?=some y:=by
  rw[List.getElem_take] at ej;rw[xAh (by omega),ej]
 have:=(xFl (i:=j) (j:=i) (by rw[xAa]; omega) h).mp (by rw[xAg,xAg,ey,hx]; show some (y.1,y.2.1)=some (x.1,x.2.1); rw[e1,e2])
 omega
theorem lY (kvs:List (Key×V))(k:Key):(kvs.any λkv=>decide (kv.1=k))=(kvs.map (·.1)).any λj=>decide (j=k):=by
 rw[List.any_map];rfl
theorem aGe {kvs kvs':List (Key×V)}(k:Key)(v v':V)(h:kvs.map (·.1)=kvs'.map (·.1)):(eY kvs k v).map (·.1)=(eY kvs' k v').map (·.1):=by
 have m:∀ (l:List (Key×V)) (u:V),(l.map λkv=>if kv.1=k then (kv.1,u) else kv).map (·.1)=l.map (·.1):=λl u=>by
  rw[xDx];refine xHq λp _=>?_;show (if p.1=k then (p.1,u) else p).1=p.1
  split <;> rfl
 unfold eY;rw[lY,lY,h]
 by_cases q:((kvs'.map (·.1)).any λj=>decide (j=k))=true
 ·rw[xBe q,xBe q,m,m,h]
 ·rw[xAy q,xAy q,xAn,xAn,h];rfl
theorem aAb:∀ (a:List Str) (z:Str) (k:List (Key×V)),mks (a++[z]) k=eY (mks a k) (Sum.inr z) (.bl true)
 | [],z,k=>rfl
 | s::r,z,k=>aAb r z _
structure eQ (H:Hp)(l:Addr)(rs:List Str)(ds:List Dr)(kvs:List (Key×V))(g:Str->Addr):Prop where
 dk:H l=some (.dK kvs)
 keys:kvs.map (·.1)=(mks rs []).map (·.1)
 val:∀ z∈rs,dC kvs (Sum.inr z)=some (.ref (g z))
 dd:∀ z∈rs,H (g z)=some (.dK (inn ds z))
 inj:∀ z∈rs,∀ y∈rs,g z=g y->z=y
 ne:∀ z∈rs,g z≠l
theorem eQ.same {H H':Hp}{l:Addr}{rs:List Str}{ds:List Dr}{kvs:List (Key×V)}{g:Str->Addr}(L:eQ H l rs ds kvs g)(sm:aO H H'):eQ H' l rs ds kvs g:=
 ⟨sm _ _ L.dk,L.keys,L.val,λz hz=>sm _ _ (L.dd z hz),L.inj,L.ne⟩
theorem eQ.more {H:Hp}{l d:Addr}{rs:List Str}{kvs:List (Key×V)}{g:Str->Addr}(L:eQ H l rs [] kvs g)(hd:H d=none)(z:Str) :
  eQ (upd (upd H d (.dK [])) l (.dK (eY kvs (Sum.inr z) (.ref d)))) l (rs++[z]) [] (eY kvs (Sum.inr z) (.ref d)) (λy=>if y=z then d else g y):=by
 have dl:d≠l:=λe=>by rw[e,L.dk] at hd; cases hd
 have gd:∀ y∈rs,g y≠d:=λy hy e=>by have:=L.dd y hy; rw[e,hd] at this; cases this
 have mem:∀ y∈rs++[z],y≠z->y∈rs:=λy hy n=>(xCp.mp hy).resolve_right λq=>n (xBb.mp q);refine⟨aD,?_,λy hy=>?_,λy hy=>?_,λy hy x hx e=>?_,λy hy=>?_⟩
 ·rw[aAb]; exact aGe _ _ _ L.keys
 ·rw[lD]
  by_cases e:y=z
  ·subst e;rw[xBe rfl,xBe rfl]
  ·rw[xAy (λq=>e (Sum.inr.inj q)),xAy e];exact L.val y (mem y hy e)
 ·by_cases e:y=z
  ·subst e;rw[xBe rfl,aG dl,aD];rfl
  ·rw[xAy e,aG (L.ne y (mem y hy e)),aG (gd y (mem y hy e))];exact L.dd y (mem y hy e)
 ·by_cases e1:y=z
  ·by_cases e2:x=z
   ·rw[e1,e2]
   ·rw[xBe e1,xAy e2] at e;exact xBg e.symm (gd x (mem x hx e2))
  ·by_cases e2:x=z
   ·rw[xAy e1,xBe e2] at e;exact xBg e (gd y (mem y hy e1))
   ·rw[xAy e1,xAy e2] at e;exact L.inj y (mem y hy e1) x (mem x hx e2) e
 ·by_cases e:y=z
  ·rw[xBe e]; exact dl
  ·rw[xAy e]; exact L.ne y (mem y hy e)
theorem eQ.door {H:Hp}{l:Addr}{rs:List Str}{ds:List Dr}{kvs:List (Key×V)}{g:Str->Addr}{i:Nat}{x:Dr}(L:eQ H l rs (ds.take i) kvs g)(hx:ds[i]?=some x)(hr:x.1∈rs)(ha:Apart ds) :
  eQ (upd H (g x.1) (.dK (eY (inn (ds.take i) x.1) (Sum.inr x.2.1) (.str x.2.2)))) l rs (ds.take (i+1)) kvs g:=by
 refine⟨?_,L.keys,L.val,λz hz=>?_,L.inj,L.ne⟩
 ·rw[aG (Ne.symm (L.ne _ hr))]; exact L.dk
 ·by_cases e:z=x.1
  ·subst e;rw[aD,aAj hx,xBe rfl,aJv _ (aAk (ha.at hx))]
  ·rw[aG (λq=>e (L.inj z hz _ hr q)),aAj hx,xAy (λq=>e q.symm),xBm];exact L.dd z hz
inductive aEc (K:xAd)(vs:List V)(H:Hp)(Q:VK)(E:XK):Prop
 | mk (a d:Addr)(rs:List Str)(ds:List Dr)(h0_:vs=[.ref a,.ref d])(h1_:SqL K H a (rs.map V.str))(h2_:cN H d ds)(h3_:rs.length<=4000)(h4_:ds.length<=1000)(h5_:∀ x∈ds,x.1∈rs)(h6_:Apart ds)
  (h7_:∀ (l:Addr) (kvs:List (Key×V)) (g:Str->Addr) H',aO H H'->H l=none->(∀ z∈rs,H (g z)=none)->eQ H' l rs ds kvs g->Q (.ref l) H')
theorem aEl {X:Cx}{st:Stmt}:PS X st (λ_ _ _=>False):=λ_ _ _ _ _ _ h=>h.elim
def dJ (ds:List Dr)(ms:List Str):List Str:=ds.map (·.2.1)++ms
abbrev aQd:List Str:=["deeds","begin","rooms","ends","knows","require_room","at","to","is_end","goes","behind"]
abbrev aQe (l dd e k:Addr)(b:Str):List (Str×V):=[("leads",.ref l),("deeds_made_of",.ref dd),("first_room",.str b),("end_marks",.ref e),("known_marks",.ref k)]
theorem dP (l dd e k:Addr)(b:Str):∀ m∈aQd,(aQe l dd e k b).lookup m=none:=by
 have h:∀ m∈aQd,(m==("leads" : Str))=false/\(m==("deeds_made_of" : Str))=false/\(m==("first_room" : Str))=false/\(m==("end_marks" : Str))=false/\(m==("known_marks" : Str))=false:=by decide +kernel
 intro m hm;obtain⟨h1,h2,h3,h4,h5⟩:=h m hm;simp only[List.lookup,h1,h2,h3,h4,h5]
structure MAt (CM:Addr)(H:Hp)(x dx l dd e k:Addr)(b:Str)(es kn:List Str)(ds:List Dr)(kvs:List (Key×V))(g:Str->Addr):Prop where
 ins:H x=some (.ins CM dx (aQe l dd e k b))
 lead:eQ H l (cH b es ds) ds kvs g
 ends:H e=some (.dK (mks es []))
 know:H k=some (.dK (mks kn []))
theorem MAt.same {CM:Addr}{H H':Hp}{x dx l dd e k:Addr}{b:Str}{es kn:List Str}{ds:List Dr}{kvs:List (Key×V)}{g:Str->Addr}(M:MAt CM H x dx l dd e k b es kn ds kvs g)(sm:aO H H'):MAt CM H' x dx l dd e k b es kn ds kvs g:=
 ⟨sm _ _ M.ins,M.lead.same sm,sm _ _ M.ends,sm _ _ M.know⟩
structure lA (K:xAd)(CM:Addr):Prop where
 cl:Cls K CM
 nl:gM K CM "leads"
 nd:gM K CM "deeds_made_of"
 nf:gM K CM "first_room"
 ne:gM K CM "end_marks"
 nk:gM K CM "known_marks"
inductive wU (K:xAd)(C CM:Addr)(vs:List V)(H:Hp)(Q:VK)(E:XK):Prop
 | mk (x dd e d dx:Addr)(b:Str)(y:V)(es ms:List Str)(ds:List Dr)(wk:List (Key×V))(h0_:vs=[.ref x,.ref dd,.str b,.ref e,.ref d,y])(h1_:H x=some (.ins CM dx []))(h2_:WAt C H dd wk)
  (h3_:H e=some (.lst (es.map V.str)))(h4_:cN H d ds)(h5_:(y=.non/\ms=[])\/∃ m,y=.ref m/\H m=some (.lst (ms.map V.str)))
  (h6_:es.length<=200/\ds.length<=800/\ms.length<=200)(h7_:(cH b es ds).all aZ=true)(h8_:((dJ ds ms).map V.str).all (dM wk)=true)(h9_:rQ (dJ ds ms))(h10_:Apart ds)(h11_:(mks (cH b es ds) []).length<=60)
  (h12_:∀ (l e' k:Addr) (kvs:List (Key×V)) (g:Str->Addr) H',SameBut x H H'->MAt CM H' x dx l dd e' k b es (dJ ds ms) ds kvs g->Q .non H')
theorem sY {ss:List Str}(h:ss.all aZ=true):rQ ss:=λz hz=>xAr (lP (xBn.mp h z hz)) (by decide)
theorem aMg {b:Str}{es:List Str}{ds:List Dr}:∀ x∈ds,x.1∈cH b es ds:=λx hx=>xBs _ (xDe.mpr ⟨x,hx,by simp⟩)
theorem zB (b:Str)(es:List Str)(ds:List Dr):(cH b es ds).length=1+es.length+2*ds.length:=by
 unfold cH;rw[xAj,nV,xBd];omega
inductive MM (CM:Addr)(H:Hp)(x dd:Addr)(b:Str)(es kn:List Str)(ds:List Dr):Prop
 | mk (dx l e k:Addr)(kvs:List (Key×V))(g:Str->Addr)(m:MAt CM H x dx l dd e k b es kn ds kvs g)
theorem MM.same {CM:Addr}{H H':Hp}{x dd:Addr}{b:Str}{es kn:List Str}{ds:List Dr}(M:MM CM H x dd b es kn ds)(sm:aO H H'):MM CM H' x dd b es kn ds:=by
 obtain⟨dx,l,e,k,kvs,g,m⟩:=M;exact⟨dx,l,e,k,kvs,g,m.same sm⟩
def gT (ds:List Dr)(z y:Str):Option Str:=(ds.find? λx=>decide (x.1=z)&&decide (x.2.1=y)).map (·.2.2)
theorem aPa {x:Dr}{r:List Dr}{z:Str}(e:x.1=z):inn (x::r) z=(Sum.inr x.2.1,V.str x.2.2)::inn r z:=by simp[inn,e]
theorem aPb {x:Dr}{r:List Dr}{z:Str}(e:¬ x.1=z):inn (x::r) z=inn r z:=by simp[inn,e]
theorem aOz (ds:List Dr)(z y:Str):dC (inn ds z) (Sum.inr y)=(gT ds z y).map V.str:=by
 induction ds with
 | nil=>rfl
 | cons x r ih=>
  unfold gT at ih ⊢;rw[xDr]
  by_cases e:x.1=z
  ·rw[aPa e]
   by_cases e2:x.2.1=y
   ·rw[eV (by show Sum.inr x.2.1=_; rw[e2]),xAv e,xAv e2];rfl
   ·have:dC ((Sum.inr x.2.1,V.str x.2.2)::inn r z) (Sum.inr y)=dC (inn r z) (Sum.inr y):=by
     unfold dC;rw[xDr,xBj (λq=>e2 (Sum.inr.inj q))]
    rw[this,ih,xAv e,xBj e2];rfl
  ·rw[aPb e,xBj e,xFo,ih]
inductive sW (CM:Addr)(vs:List V)(H:Hp)(Q:VK)(E:XK):Prop
 | mk (x dd:Addr)(b:Str)(es kn:List Str)(ds:List Dr)(h0_:vs=[.ref x])(h1_:MM CM H x dd b es kn ds)(h2_:Q (.str b) H)
def oV (o:Option Str):V:=(o.map V.str).getD .non
def nJ (ds:List Dr)(kn:List Str)(z y:Str):Option Str:=if y∈kn then gT ds z y else some z
inductive aEb (CM:Addr)(vs:List V)(H:Hp)(Q:VK)(E:XK):Prop
 | mk (x dd:Addr)(b z y:Str)(es kn:List Str)(ds:List Dr)(h0_:vs=[.ref x,.str z,.str y])(h1_:MM CM H x dd b es kn ds)(h2_:z∈cH b es ds)(h3_:Q (oV (nJ ds kn z y)) H)
theorem aDm {ds:List Dr}{b:Str}{es:List Str}{z y u:Str}(h:gT ds z y=some u):u∈cH b es ds:=by
 unfold gT at h;obtain⟨x,hx,rfl⟩:=xDs.mp h;exact xBs _ (xDe.mpr ⟨x,xGl hx,by simp⟩)
theorem aMa {ds:List Dr}{kn:List Str}{b:Str}{es:List Str}{z y u:Str}(hz:z∈cH b es ds)(h:nJ ds kn z y=some u):u∈cH b es ds:=by
 unfold nJ at h
 by_cases q:y∈kn
 ·rw[xBe q] at h; exact aDm h
 ·rw[xAy q] at h; cases h; exact hz
theorem cN.push {H:Hp}{d t:Addr}{ds:List Dr}(D:cN H d ds)(ht:H t=none)(x:Dr):∃ xs,H d=some (.lst xs)/\xs.length=ds.length/\cN (upd (upd H t (.tup [.str x.1,.str x.2.1,.str x.2.2])) d (.lst (xs++[.ref t]))) d (ds++[x]):=by
 obtain⟨ts,h1,h2,h3⟩:=D.ex;refine⟨_,h1,by rw[xAa,h2],⟨ts++[t],?_,?_,λi u y hu hy=>?_⟩⟩
 ·rw[aD,xAn]; rfl
 ·rw[xAj,xAj,h2]; rfl
 ·by_cases hi:i<ts.length
  ·rw[xBf hi] at hu;rw[xBf (by rw[<- h2]; exact hi)] at hy;have e:=h3 i u y hu hy;rw[aG (λz=>by rw[z,h1] at e; cases e),aG (aF e ht)];exact e
  ·have hl:i=ts.length:=by
    have:=(xAc.mp hu).1
    rw[xAj] at this;simp only[List.length_cons,List.length_nil] at this;omega
   subst hl;rw[xBh (xAi _),xDg] at hu;rw[h2,xBh (xAi _),xDg] at hy;cases hu;cases hy;rw[aG (λz=>by rw[z,h1] at ht; cases ht),aD]
theorem cN.rev {H:Hp}{d:Addr}{ds:List Dr}(D:cN H d ds):∃ xs,H d=some (.lst xs)/\xs.length=ds.length/\cN (upd H d (.lst xs.reverse)) d ds.reverse:=by
 obtain⟨ts,h1,h2,h3⟩:=D.ex;refine⟨_,h1,by rw[xAa,h2],⟨ts.reverse,?_,?_,λi u y hu hy=>?_⟩⟩
 ·rw[aD,List.map_reverse]
 ·rw[xFb,xFb,h2]
 ·have hi:i<ts.length:=by have:=(xAc.mp hu).1; rw[xFb] at this; exact this
  rw[xJz hi] at hu;rw[xJz (by rw[<- h2]; exact hi),<- h2] at hy;have e:=h3 _ u y hu hy;rw[aG (λz=>by rw[z,h1] at e; cases e)];exact e
def tJ (p:Nat->Bool)(ss:List Str)(i:Nat):List Str:=(List.range i).filterMap λk=>if p k=true then ss[k]? else none
theorem iO {p:Nat->Bool}{ss:List Str}{i:Nat}{z:Str}(h:ss[i]?=some z):tJ p ss (i+1)=tJ p ss i++(if p i=true then [z] else []):=by
 unfold tJ;rw[xDh,xDi]
 by_cases e:p i=true
 ·simp[e,h]
 ·simp[e]
theorem lK (p:Nat->Bool)(ss:List Str)(i:Nat):(tJ p ss i).length<=i:=by
 refine xAr (xCx ..) ?_;rw[xBv];exact xAi _
theorem zJ {p:Nat->Bool}{ss:List Str}{i:Nat}:∀ z∈tJ p ss i,z∈ss:=λz hz=>by
 obtain⟨k,_,e⟩:=xBz.mp hz
 by_cases q:p k=true
 ·rw[xBe q] at e; exact xAu e
 ·rw[xAy q] at e; cases e
end Ky
namespace K23
open PySem L2 Ky PySem.W
seal L2.PE L2.PS L2.PSs L2.PA L2.PT L2.PW L2.PG L2.PI L2.PTs L2.PO L2.PPs L2.OpR L2.IxR L2.CallR L2.MtM L2.MtR
def top (i:Nat):Stmt:=PySem.Challenge.pw_roomward_k23_made_one.main.body.getD i (.Pass ⟨0,0,0,0⟩)
abbrev wZ:Stmt:=top 18
abbrev xC:Stmt:=top 19
abbrev oP:Stmt:=top 25
abbrev xA:Stmt:=top 26
abbrev sZ:Stmt:=top 27
abbrev aBu:Stmt:=top 28
abbrev aBw:Stmt:=top 29
abbrev aBt:Stmt:=top 32
abbrev qC:Stmt:=top 33
abbrev aBv:Stmt:=top 34
abbrev gG:Stmt:=top 35
abbrev oT:Stmt:=top 38
abbrev xB:Stmt:=top 39
abbrev oU:Stmt:=top 40
abbrev tF:Stmt:=top 41
abbrev jX:Stmt:=top 42
abbrev oQ:Stmt:=top 43
abbrev tE:Stmt:=top 45
abbrev aJp:Stmt:=top 46
abbrev lJ:Stmt:=top 47
abbrev oR:Stmt:=top 48
abbrev oN:Stmt:=top 49
abbrev hJ:Stmt:=top 50
abbrev oO:Stmt:=top 51
abbrev aJo:Stmt:=top 52
abbrev mY:Stmt:=top 53
abbrev aJm:Stmt:=top 54
abbrev wY:Stmt:=top 55
abbrev aEh:Stmt:=top 56
abbrev aJn:Stmt:=top 57
abbrev aEi:Stmt:=top 58
abbrev yZ:Stmt:=top 59
abbrev vU:Stmt:=top 60
abbrev kY:Stmt:=top 61
abbrev iR:Stmt:=aE aBw 0
abbrev aNr:Stmt:=aE aBw 3
abbrev tD:Stmt:=aE aBw 4
abbrev nN:Stmt:=aE gG 0
abbrev aCz:Stmt:=aE gG 1
abbrev aDa:Stmt:=aE gG 2
abbrev aCw:Stmt:=aE gG 3
abbrev aLm:Stmt:=aE gG 4
abbrev aCx:Stmt:=aE gG 5
abbrev tU:Stmt:=aE gG 6
abbrev mTo:Stmt:=aE gG 8
abbrev aCy:Stmt:=aE gG 9
abbrev aLl:Stmt:=aE gG 10
abbrev aIj:Stmt:=aE jX 0
abbrev aBi:Stmt:=aE jX 1
abbrev aBj:Stmt:=aE jX 2
abbrev aBg:Stmt:=aE jX 3
abbrev wAt:Stmt:=aE jX 4
abbrev wTo:Stmt:=aE jX 5
abbrev aBh:Stmt:=aE jX 6
abbrev aDs:Stmt:=aE jX 7
abbrev gZ:Stmt:=aE jX 8
structure Txt (K:xAd)(mg:xSO):Prop where
 lett:∃ t,mg "LETTERS"=some (.str jF t)
 figu:∃ t,mg "FIGURES"=some (.str kQ t)
 most:∃ t,mg "MOST_SIGNS"=some (.int 8 t)
 deeds:∃ t,mg "MOST_DEEDS"=some (.int 12 t)
 isi:mg "isinstance"=none
 str:mg "str"=none
 bool:mg "bool"=none
 int:mg "int"=none
 len:mg "len"=none
 all:mg "all"=none
 range:mg "range"=none
 sorted:mg "sorted"=none
 list:mg "list"=none
 enum:mg "enumerate"=none
section
variable {P:Program}{w:World}{K:xAd}{mg:xSO}{base:Heap}
theorem scM:aQ ["_law_cell","_law_k","_law_one"] ["_law_cell","_law_k"] (aB tE):=xfs
theorem pD {f:Addr}{fd:FuncData}(F:Fun K "_law_mixed" "_law_mixed" tE f fd):aY P w K mg base CX0 1 f fd ["_law_cell","_law_k"] oK:=by
 refine F.ok scM (λvs H Q E h=>?_) (λcdv A outer s H vs Q E hr h=>?_)
 ·obtain⟨c,k,rfl,_⟩:=h;rfl
 ·obtain⟨c,k,rfl,q⟩:=h
  refine⟨_,aK (bJ (i:=2) scM.nd rfl (xAx rfl) (aX dD (aX nX (aX dY (pv 0) (aX nX aN (pv 1))) aN) aN))
   (aL (bO (aX dD (aX nX (pv 2) (aX dY (aX dY (pv 2) (aX nX aN (pv 1))) aN)) aN))),?_⟩
  refine⟨_,rfl,_,rfl,_,_,rfl,rfl,.inl ⟨by decide,by decide⟩,_,_,rfl,rfl,_,_,rfl,rfl,.inr ⟨by decide,by decide⟩,_,_,rfl,rfl,(by show (0:Int)<2147483647; decide),?_⟩;have h0:0<=(c+7919*k)*48271%2147483647:=Int.emod_nonneg _ (by decide);have h1:(c+7919*k)*48271%2147483647<2147483647:=Int.emod_lt_of_pos _ (by decide);refine⟨_,rfl,_,rfl,_,rfl,_,_,rfl,rfl,.inl ⟨by decide,by decide⟩,_,_,rfl,rfl,_,_,rfl,rfl,_,_,rfl,rfl,.inl ⟨?_,?_⟩,_,_,rfl,rfl,(by show (0:Int)<2147483629; decide),q⟩
  ·exact Int.lt_of_lt_of_le (by decide) h0
  ·exact Int.lt_of_lt_of_le h1 (by decide)
theorem scC:aQ ["_law_script","_law_k"] ["_law_script","_law_k"] (aB aJp):=xfs
theorem aOq {f fM:Addr}{fd fdM:FuncData}(F:Fun K "_law_cell_at" "_law_cell_at" aJp f fd)(T:Txt K mg)(FM:Fun K "_law_mixed" "_law_mixed" tE fM fdM)(bM:aW K fdM ["_law_cell","_law_k"] [])(mM:mg "_law_mixed" = some (.ref fM)) :
  aY P w K mg base CX0 2 f fd ["_law_script","_law_k"] (aJf K):=by
 have GM:aY P w K mg base CX0 1 fM fdM ["_law_cell","_law_k"] oK:=pD FM;refine F.ok scC (λvs H Q E h=>?_) (λcdv A outer s H vs Q E hr h=>?_)
 ·obtain⟨a,ns,k,rfl,_⟩:=h;rfl
 ·obtain⟨a,ns,k,rfl,hS,q⟩:=h
  refine⟨_,aK (dR (cB aKn (pv 1) (cC cZ (by rfl) T.len PySem.boot_len (jD (pv 0) aH)) (cO _))
    (aL (bO (bV GM hr rfl mM FM.kp bM .nil cA (jD (eE cY (pv 0) (pv 1) (λ_ _=>rfl)) (jD (pv 1) aH))))) cG)
   (aL (bO aN)),?_⟩
  refine⟨_,rfl,_,rfl,a,_,rfl,.inl hS,_,_,rfl,rfl,_,rfl,?_⟩;rw[xAa];refine fU (λhk=>?_) (λhk=>?_)
  ·have hk':k<ns.length:=by have:=xAp hk; omega
   have ek:ns[k]?=some ns[k]:=by simp[hk']
   refine⟨_,rfl,_,rfl,a,_,_,_,rfl,rfl,hS,iF (v:=V.int ns[k]) (by rw[xAg,ek]; rfl),_,rfl,ns[k],k,rfl,?_⟩;have e:RW.cellAt ns k=RW.mixed ns[k] k:=by unfold RW.cellAt; rw[ek]
   rw[<- e];exact q
  ·have hk':¬ k<ns.length:=by intro z; exact hk (xAv (by omega))
   have e:RW.cellAt ns k=0:=by unfold RW.cellAt; rw[xFs (by omega)]
   rw[e] at q;exact q
theorem scN:aQ ["thing","signs"] ["thing"] (aB oP):=xfs
theorem rZ {f:Addr}{fd:FuncData}(F:Fun K "is_name" "is_name" oP f fd)(T:Txt K mg):aY P w K mg base CX0 1 f fd ["thing"] (sS K):=by
 obtain⟨tl,mL⟩:=T.lett;obtain⟨tf,mF⟩:=T.figu;obtain⟨tm,mM⟩:=T.most;refine F.ok scN (λvs H Q E h=>?_) (λcdv A outer s H vs Q E hr h=>?_)
 ·obtain⟨x,rfl,_⟩:=h;rfl
 ·obtain⟨x,rfl,h⟩:=h
  refine⟨_,aK (dR (rD (kG (kE (cC aMm (by rfl) T.isi Bo.isinstance (jD (pv 0) (jD (aEp (v:=.ty "str") (by rfl) T.str Bo.str rfl) aH)))))
     (rD (kG (zH (pv 0) (λ_=>rfl)))
     (qE (cB rE (cC xY (by rfl) T.len Bo.len (jD (pv 0) aH)) (jC (v:=.int 8) (by rfl) mM ⟨_,rfl⟩) (cO _))))).pt
    (aL (bO pB)) cG)
   (aK (bJ (i:=1) scN.nd rfl (xHg rfl) (aX nY (jC (v:=.str jF) (by rfl) mL ⟨_,rfl⟩) (jC (v:=.str kQ) (by rfl) mF ⟨_,rfl⟩)))
   (aL (bO (aKi (rY vZ (eE aSe (pv 0) aN (λ_ _=>rfl)) (jC (v:=.str jF) (by rfl) mL ⟨_,rfl⟩) (by with_unfolding_all rfl))
    (aKb (cC (qY rfl) (by rfl) T.all Bo.all (jD (dW (N':=["sign","signs"]) (nown:=1) (js:=[1]) rfl
     xbs (cF (aB oP) ["thing","signs"] rfl rfl (by decide +kernel))
     ⟨λ_ _ _ _=>aP (i:=0) (show List.Nodup (["sign","signs"]:List Str) by decide +kernel) rfl (xAx rfl) (.inr rfl),λ_ _ _ _=>dU,λ_ _ _ _=>rY vZ (pv 0) (pv 1) (by with_unfolding_all rfl)⟩
     (aRj (pv 0))) aH))))))),?_⟩
  rcases h with⟨z,rfl,hz,q⟩ | ⟨t,ty,hk,q⟩
  ·refine⟨_,rfl,.str z,.ty "str",.type "str",.type "str",true,rfl,aBz,oF.str z,rfl,_,rfl,gP ?_⟩;refine⟨_,rfl,_,⟨hz,rfl⟩,?_⟩
   by_cases h0:z.length=0
   ·rw[h0];refine jR (jR ?_)
    have e:aZ z=false:=by
     have:z.cps.toList.length=0:=by rw[xBo]; exact h0
     unfold aZ pH;rw[xGw.mp this];rfl
    have q':=q H (aO.refl H);rw[e] at q';exact q'
   ·have hb:((z.length:Int) != 0)=true:=by simp[h0]
    rw[hb];refine gP ⟨_,rfl,z,rfl,hz,_,_,rfl,rfl,_,rfl,?_⟩;refine fU (λh8=>?_) (λh8=>?_)
    ·have h8':8<z.length:=by have:=xAp h8; omega
     have e:aZ z=false:=by
      have hl:z.cps.toList.length=z.length:=by simp[Str.length]
      unfold aZ pH;rw[xBj (by omega)];rfl
     have q':=q H (aO.refl H);rw[e] at q';exact q'
    ·have h8':z.length<=8:=by
      by_cases z8:z.length<=8
      ·exact z8
      ·exact xBg (xAv (show (8:Int)<(z.length:Int) by omega)) h8
     have hl:z.cps.toList.length=z.length:=by simp[Str.length]
     obtain⟨c,cs,ec⟩:∃ c cs,z.cps.toList=c::cs:=by
      cases e:z.cps.toList with
      | nil=>rw[e] at hl; exact xBg hl.symm h0
      | cons c cs=>exact⟨c,cs,rfl⟩
     have hat:atI z.cps.toList 0=some c:=by
      rw[ec];exact iF (j:=0) rfl
     have hn:aZ z=(lV c&&z.cps.toList.all oB):=by
      unfold aZ pH;rw[xAv (show 1<=z.cps.toList.length/\z.cps.toList.length<=8 by omega)];rw[ec];rfl
     refine⟨_,_,rfl,rfl,by decide +kernel,?_⟩;refine⟨_,rfl,z,0,c,rfl,rfl,hz,hat,_,_,rfl,rfl,_,rfl,?_⟩;rw[StrLaws.found_one,rF];refine fU (λhc=>?_) (λhc=>?_)
     ·refine⟨_,rfl,z,rfl,λD hD=>aPl (x:=z) (λi Z' H'=>∃ v,Z'=[v,some (.str (jF++kQ))]/\H' D=some (.lst (((z.cps.toList.take i).map oB).map V.bl))/\aO H H') ?_ ?_ ?_⟩
      ·exact⟨none,rfl,aD,λb o e=>by rw[aG (aF e hD)]; exact e⟩
      ·rintro i d Z' H' hd ⟨v,rfl,hl',sm⟩;refine⟨_,rfl,_,rfl,_,_,rfl,rfl,_,hl',?_,some (aEf d),rfl,?_,?_⟩
       ·refine aR ?_;rw[xAa,xAa,xAt];omega
       ·rw[aD,StrLaws.found_one,aHc];have hd':z.cps.toList[i]?=some d:=by rw[xBx]; exact hd
        rw[xBl,hd']
        simp
       ·intro b o e;have e':=sm b o e;rw[aG (aF e hD)];exact e'
      ·rintro Z' H' ⟨v,rfl,hl',sm⟩;refine⟨D,_,rfl,SqL.of hl',?_⟩;have q':=q H' sm;rw[hn,hc,xGz] at q'
       have ea:((z.cps.toList.take z.cps.size).map oB).all id=z.cps.toList.all oB:=by
        rw[xDt (by simp),xHj];rfl
       rw[ea];exact q'
     ·have q':=q H (aO.refl H);rw[hn,xCs.mpr hc,xFo] at q';exact q'
  ·refine⟨_,rfl,x,.ty "str",.type "str",t,false,rfl,aBz,ty,hk,_,rfl,jR (jR ?_)⟩;exact q
theorem scW:aQ ["names","weights","weight","name"] ["names"] (aB sZ):=xfs
theorem aCe {f:Addr}{fd:FuncData}(F:Fun K "weights_of" "weights_of" sZ f fd)(T:Txt K mg):aY P w K mg base CX0 1 f fd ["names"] (vL K):=by
 refine F.ok scW (λvs H Q E h=>?_) (λcdv A outer s H vs Q E hr h=>?_)
 ·obtain⟨a,ss,rfl,_⟩:=h;rfl
 ·obtain⟨a,ss,rfl,hS,h64,q⟩:=h;have hu:=iI hr
  refine⟨_,aK (bJ (i:=1) scW.nd rfl (xAx rfl) lN)
   (aK (bJ (i:=2) scW.nd rfl (xAx rfl) aN)
   (aK (dI PassesOwn.never rfl (cS (cC kT (by rfl) T.sorted Bo.sorted (pac (pv 0) aH))) (aP (i:=3) scW.nd rfl (xAx rfl))
    (aK (iL hu (pv 1) (pv 3) (pv 2) rfl) (aL (bJ (i:=2) scW.nd rfl (xAx rfl) (aX nX (pv 2) aN)))))
   (aL (bO (pv 1))))),?_⟩
  intro d hd;have s0:aO H (upd H d (.dK [])):=λb o e=>by rw[aG (aF e hd)]; exact e
  refine⟨_,rfl,a,ss,rfl,s0.seq hS,h64,λp ss' hp pm so=>⟨p,rfl,⟨_,SqL.of aD⟩,?_⟩⟩;have hpd:p≠d:=λz=>by rw[z,aD] at hp; cases hp
  have hpH:H p=none:=by rw[aG hpd] at hp; exact hp
  have hlen:ss'.length=ss.length:=pm.length_eq;refine dH (xs:=ss'.map V.str) (λi Z H'=>∃ wv kvs nv,Z=[some (.ref a),some (.ref d),some (.int wv),nv]/\H' d=some (.dK kvs)/\H' p=some (.lst (ss'.map V.str))/\aO H H'/\kvs.length<=i/\wts (ss'.drop i) wv kvs=wts ss' 1 []) ?_ ?_ ?_ ?_
  ·exact⟨1,[],none,rfl,by rw[aG (Ne.symm hpd),aD],aD,λb o e=>by rw[aG (aF e hpH),aG (aF e hd)]; exact e,xAi _,rfl⟩
  ·rintro i Z H' _ ⟨wv,kvs,nv,rfl,h1,h2,h3,h4,h5⟩;exact SqL.of h2
  ·rintro i x Z H' hx ⟨wv,kvs,nv,rfl,h1,h2,h3,h4,h5⟩;rw[xAg] at hx;cases hz:ss'[i]? with
   | none=>rw[hz] at hx; cases hx
   | some z=>
    rw[hz] at hx;cases hx;have hi:i<ss'.length:=(xAc.mp hz).1;refine⟨_,rfl,_,rfl,_,rfl,d,_,rfl,oI.k (k:=Sum.inr z) h1 (aR (by omega)),?_⟩;refine⟨_,rfl,_,_,rfl,rfl,.inr ⟨by decide,by decide⟩,wv*2,eY kvs (Sum.inr z) (.int wv),some (.str z),rfl,aD,by rw[aG hpd]; exact h2,λb o e=>?_,?_,?_⟩
    ·rw[aG (aF e hd)]; exact h3 b o e
    ·exact xAr (eJ _ _ _) (by omega)
    ·rw[<- h5,xDz hi];rw[(xAc.mp hz).2];rfl
  ·rintro Z H' ⟨wv,kvs,nv,rfl,h1,h2,h3,h4,h5⟩;rw[xAa,xIi] at h5;refine⟨_,rfl,q d ss' H' h3 hd pm so ?_⟩;rw[h1];exact congrArg (λz=>some (HO.dK z)) h5
theorem scK:aQ ["names","marks","name"] ["names"] (aB aBu):=xfs
theorem aKs {f:Addr}{fd:FuncData}(F:Fun K "marks_of" "marks_of" aBu f fd)(T:Txt K mg):aY P w K mg base CX0 1 f fd ["names"] (rX K):=by
 refine F.ok scK (λvs H Q E h=>?_) (λcdv A outer s H vs Q E hr h=>?_)
 ·obtain⟨a,ss,rfl,_⟩:=h;rfl
 ·obtain⟨a,ss,rfl,hS,hlen,q⟩:=h;have hu:=iI hr
  refine⟨_,aK (bJ (i:=1) scK.nd rfl (xAx rfl) lN)
   (aK (dI PassesOwn.never rfl (cS (pv 0)) (aP (i:=2) scK.nd rfl (xAx rfl)) (aL (iL hu (pv 1) (pv 2) pB rfl)))
   (aL (bO (pv 1)))),?_⟩
  intro d hd;have s0:aO H (upd H d (.dK [])):=λb o e=>by rw[aG (aF e hd)]; exact e
  refine⟨_,rfl,a,rfl,⟨_,s0.seq hS⟩,?_⟩;refine dH (xs:=ss.map V.str) (λi Z H'=>∃ kvs nv,Z=[some (.ref a),some (.ref d),nv]/\H' d=some (.dK kvs)/\aO H H'/\kvs.length<=i/\mks (ss.drop i) kvs=mks ss []) ?_ ?_ ?_ ?_
  ·exact⟨[],none,rfl,aD,s0,xAi _,rfl⟩
  ·rintro i Z H' _ ⟨kvs,nv,rfl,h1,h3,h4,h5⟩;exact h3.seq hS
  ·rintro i x Z H' hx ⟨kvs,nv,rfl,h1,h3,h4,h5⟩;rw[xAg] at hx;cases hz:ss[i]? with
   | none=>rw[hz] at hx; cases hx
   | some z=>
    rw[hz] at hx;cases hx;have hi:i<ss.length:=(xAc.mp hz).1;refine⟨_,rfl,_,rfl,d,_,rfl,oI.k (k:=Sum.inr z) h1 (aR (by omega)),eY kvs (Sum.inr z) (.bl true),some (.str z),rfl,aD,λb o e=>?_,?_,?_⟩
    ·rw[aG (aF e hd)]; exact h3 b o e
    ·exact xAr (eJ _ _ _) (by omega)
    ·rw[<- h5,xDz hi];rw[(xAc.mp hz).2];rfl
  ·rintro Z H' ⟨kvs,nv,rfl,h1,h3,h4,h5⟩;rw[xAa,xIi] at h5;refine⟨_,rfl,q d H' h3 hd ?_⟩;rw[h1];exact congrArg (λz=>some (HO.dK z)) h5
structure Exc (K:xAd)(mg:xSO)(cl:Why->Addr):Prop where
 nn:mg "NoName"=some (.ref (cl .noName))
 nd:mg "NoDeed"=some (.ref (cl .noDeed))
 tt:mg "TwiceTold"=some (.ref (cl .twice))
 tm:mg "TooMany"=some (.ref (cl .tooMany))
 x:∀ k,yC K (cl k)
theorem scR:aQ ["names","ahead","name"] ["names"] (aB xA):=xfs
theorem aGs {f fN:Addr}{fd fdN:FuncData}{cl:Why->Addr}(F:Fun K "refuse_names" "refuse_names" xA f fd)(T:Txt K mg)(Ex:Exc K mg cl)
  (FN:Fun K "is_name" "is_name" oP fN fdN)(bN:aW K fdN ["thing"] [])(mN:mg "is_name" = some (.ref fN)) :
  aY P w K mg base (CXE P w) 2 f fd ["names"] (yQ K cl):=by
 have GN:aY P w K mg base CX0 1 fN fdN ["thing"] (sS K):=rZ FN T;obtain⟨tm,mD⟩:=T.deeds;refine okE F scR (λvs H Q E h=>?_) (λcdv A outer s H vs Q E hr h D=>?_)
 ·obtain⟨a,ss,rfl,_⟩:=h;rfl
 ·obtain⟨a,ss,rfl,hS,hsh,q⟩:=h;have hu:=iI hr
  refine⟨_,aK (dR (cB rE (cC cZ (by rfl) T.len Bo.len (pac (pv 0) aH)) (jC (v:=.int 12) (by rfl) mD ⟨_,rfl⟩) (cO _))
    (aL (iH D rfl (by rfl) Ex.tm (Ex.x .tooMany) (pac aS aH))) cG)
   (aK (bJ (i:=1) scR.nd rfl (xAx rfl) lN)
   (aL (dI PassesOwn.leaving rfl (cS (pv 0)) (aP (i:=2) scR.nd rfl (xAx rfl))
    (aK (dR (kG (kE (bV GN hr rfl mN FN.kp bN .nil cA (pac (pv 2) aH)))) (aL (iH D rfl (by rfl) Ex.nn (Ex.x .noName) (pac aS aH))) cG)
    (aK (dR (qF (tO hu (pv 2) (pv 1))) (aL (iH D rfl (by rfl) Ex.tt (Ex.x .twice) (pac (zN aS (aRk (pv 2)) aS) aH))) cG)
    (aL (iL hu (pv 1) (pv 2) pB rfl))))))),?_⟩
  refine⟨_,rfl,a,_,rfl,.inl hS,_,_,rfl,rfl,_,rfl,?_⟩;rw[xAa]
  have fin:∀ (k:Why) H',aO H H'->iY ss=some k->E (.ref (cl k)) none H':=λk H' sm e=>by
   have:=q H' sm
   rw[e] at this;exact this
  refine fU (λh12=>?_) (λh12=>?_)
  ·have h12':12<ss.length:=by have:=xAp h12; omega
   exact⟨by show 1<=sizeLine; decide,fin .tooMany H (aO.refl H) (xBe h12')⟩
  ·have h12':¬ 12<ss.length:=λz=>h12 (xAv (by omega));have er:iY ss=uS [] ss:=xAy h12';intro d hd;have s0:aO H (upd H d (.dK [])):=λb o e=>by rw[aG (aF e hd)]; exact e
   refine⟨_,rfl,a,rfl,⟨_,s0.seq hS⟩,?_⟩;refine dH (xs:=ss.map V.str) (λi Z H'=>∃ kvs nv,Z=[some (.ref a),some (.ref d),nv]/\H' d=some (.dK kvs)/\aO H H'/\kvs.length<=i/\(∀ z,(dC kvs (Sum.inr z)).isSome=decide (z∈ss.take i))/\uS (ss.take i) (ss.drop i)=uS [] ss) ?_ ?_ ?_ ?_
   ·exact⟨[],none,rfl,aD,s0,xAi _,λz=>by simp[dC],rfl⟩
   ·rintro i Z H' _ ⟨kvs,nv,rfl,h1,h3,h4,h5,h6⟩;exact h3.seq hS
   ·rintro i x Z H' hx ⟨kvs,nv,rfl,h1,h3,h4,h5,h6⟩;rw[xAg] at hx;cases hz:ss[i]? with
    | none=>rw[hz] at hx; cases hx
    | some z=>
     rw[hz] at hx;cases hx;obtain⟨hi,hzi⟩:=xAc.mp hz;have hzl:z.length<=1000:=hsh z (xAu hz);have ed:ss.drop i=z::ss.drop (i+1):=by rw[xDz hi,hzi]
     have et:ss.take (i+1)=ss.take i++[z]:=by rw[xBl,hz]; rfl
     have sl:sizeLine=16777216:=sizeLine_eq;rw[ed] at h6;refine⟨_,rfl,.str z,rfl,.inl ⟨z,rfl,by omega,λH2 sm2=>⟨_,rfl,?_⟩⟩⟩;have s2:aO H H2:=h3.trans sm2
     by_cases hn:aZ z=true
     ·rw[hn];refine gP ⟨_,rfl,_,rfl,d,_,rfl,dQ.k (k:=Sum.inr z) (sm2 d _ h1),_,rfl,?_⟩;rw[h5 z]
      by_cases hm:z∈ss.take i
      ·rw[xAv hm];refine jR ⟨_,rfl,?_,_,rfl,z,rfl,by omega,_,rfl,?_,_,rfl,?_,?_,by show 1<=sizeLine; decide,fin .twice H2 s2 ?_⟩
       ·rw[iM]; show 0+9<=sizeLine; decide
       ·rw[iM,iM]; show 0+9+z.length<=sizeLine; omega
       ·rw[iM,iM,iM]; show 0+9+z.length+14<=sizeLine; omega
       ·rw[iM,iM,iM]; show 0+9+z.length+14<=sizeLine; omega
       ·rw[er,<- h6];show (if aZ z=true then (if z∈ss.take i then some Why.twice else uS (ss.take i++[z]) (ss.drop (i+1))) else some .noName)=_
        rw[xBe hn,xBe hm]
      ·rw[xBj hm];refine gP ⟨_,rfl,_,rfl,d,_,rfl,oI.k (k:=Sum.inr z) (sm2 d _ h1) (aR (by omega)),eY kvs (Sum.inr z) (.bl true),some (.str z),rfl,aD,λb o e=>?_,?_,λy=>?_,?_⟩
       ·rw[aG (aF e hd)]; exact s2 b o e
       ·exact xAr (eJ _ _ _) (by omega)
       ·rw[lD,et]
        by_cases hy:y=z
        ·subst hy;rw[xBe rfl]
         simp
        ·rw[xAy (λe=>hy (Sum.inr.inj e)),h5 y];simp[hy]
       ·rw[et,<- h6];show _=if aZ z=true then (if z∈ss.take i then some .twice else uS (ss.take i++[z]) (ss.drop (i+1))) else some .noName
        rw[xBe hn,xAy hm]
     ·rw[xCs.mpr hn];refine jR ⟨by show 1<=sizeLine; decide,fin .noName H2 s2 ?_⟩;rw[er,<- h6];exact xAy hn
   ·rintro Z H' ⟨kvs,nv,rfl,h1,h3,h4,h5,h6⟩;rw[xAa,xIi,xBa] at h6
    have:=q H' h3
    rw[er,<- h6] at this;exact this
structure aDr (K:xAd)(C:Addr):Prop where
 cl:Cls K C
 nw:gM K C "weights"
 nf:gM K C "free_marks"
theorem scH:aQ ["self","thing"] ["self","thing"] (aB aNr):=xfs
theorem aXf (K:xAd):kitOne K (.type "NoneType") (.type "str")=some false:=by
 unfold kitOne kitCls;rw[xAy (by decide)];dsimp only;rw[xBe (by decide +kernel)];show (PySem.fastBuiltinMro "NoneType").map _=_
 decide +kernel
theorem aXg (K:xAd):kitOne K (.type "int") (.type "str")=some false:=by
 unfold kitOne kitCls;rw[xAy (by decide)];dsimp only;rw[xBe (by decide +kernel)];show (PySem.fastBuiltinMro "int").map _=_
 decide +kernel
theorem aRs {f fN C:Addr}{fd fdN:FuncData}(F:Fun K "has" "Deeds.has" aNr f fd)(T:Txt K mg)(DC:aDr K C)
  (FN:Fun K "is_name" "is_name" oP fN fdN)(bN:aW K fdN ["thing"] [])(mN:mg "is_name" = some (.ref fN)) :
  aY P w K mg base CX0 2 f fd ["self","thing"] (aPz K C):=by
 have GN:aY P w K mg base CX0 1 fN fdN ["thing"] (sS K):=rZ FN T;refine F.ok scH (λvs H Q E h=>?_) (λcdv A outer s H vs Q E hr h=>?_)
 ·obtain⟨p,x,kvs,rfl,_⟩:=h;rfl
 ·obtain⟨p,x,kvs,rfl,hz,⟨dx,fs,dw,o,hp,hm,hw,hk⟩,q⟩:=h;have hu:=iI hr;refine⟨_,aL (bO (aKi (bV GN hr rfl mN FN.kp bN .nil cA (pac (pv 1) aH)) (aKb (aKg (tO hu (pv 1) (eN (pv 0) rfl)))))),?_⟩;rcases hz with⟨z,rfl,hz⟩ | rfl | rfl
  ·refine⟨_,rfl,.str z,rfl,.inl ⟨z,rfl,by have sl:sizeLine=16777216:=sizeLine_eq; omega,λH2 s2=>⟨_,rfl,?_⟩⟩⟩;have q2:=q H2 s2;refine fU (λhn=>?_) (λhn=>?_)
   ·rw[dM,hn,xGz] at q2;exact⟨_,rfl,_,rfl,p,C,dx,fs,_,rfl,s2 p _ hp,DC.cl,DC.nw,hw,dw,_,rfl,.inl ⟨kvs,Sum.inr z,.inr ⟨o,s2 dw _ hk⟩,rfl,rfl⟩,q2⟩
   ·rw[dM,xCs.mpr hn,xFo] at q2;exact q2
  ·exact⟨_,rfl,.non,rfl,.inr ⟨_,.non,aXf K,_,rfl,gP (q H (aO.refl H))⟩⟩
  ·exact⟨_,rfl,.int 5,rfl,.inr ⟨_,.int 5,aXg K,_,rfl,gP (q H (aO.refl H))⟩⟩
theorem scQ:aQ ["self","row","deed"] ["self","row"] (aB tD):=xfs
theorem aCg {f fN fH C:Addr}{fd fdN fdH:FuncData}{cl:Why->Addr}(F:Fun K "require" "Deeds.require" tD f fd)(T:Txt K mg)(Ex:Exc K mg cl)(DC:aDr K C)
  (FN:Fun K "is_name" "is_name" oP fN fdN)(bN:aW K fdN ["thing"] [])(mN:mg "is_name" = some (.ref fN))
  (FH:Fun K "has" "Deeds.has" aNr fH fdH)(bH:aW K fdH ["self","thing"] [])(mH:fV K C "has" fH) :
  aY P w K mg base (CXE P w) 3 f fd ["self","row"] (jP K C cl):=by
 have GH:aY P w K mg base CX0 2 fH fdH ["self","thing"] (aPz K C):=aRs FH T DC FN bN mN;refine okE F scQ (λvs H Q E h=>?_) (λcdv A outer s H vs Q E hr h D=>?_)
 ·obtain⟨p,b,fs,kvs,rfl,_⟩:=h;rfl
 ·obtain⟨p,b,fs,kvs,rfl,hS,hsh,⟨dx,fl,dw,o,hp,hm,hw,hk⟩,q⟩:=h
  refine⟨_,aL (dI PassesOwn.leaving rfl (cS (pv 1)) (aP (i:=2) scQ.nd rfl (xAx rfl))
    (aL (dR (kG (kE (eA (pv 0) DC.cl mH GH hr bH .nil cA (pac (pv 2) aH)))) (aL (iH D rfl (by rfl) Ex.nd (Ex.x .noDeed) (pac aS aH))) cG))),?_⟩
  refine⟨_,rfl,b,rfl,⟨_,hS⟩,?_⟩;refine dH (xs:=fs) (λi Z H'=>∃ nv,Z=[some (.ref p),some (.ref b),nv]/\aO H H'/\(fs.take i).all (dM kvs)=true) ?_ ?_ ?_ ?_
  ·exact⟨none,rfl,aO.refl H,rfl⟩
  ·rintro i Z H' _ ⟨nv,rfl,h3,h4⟩;exact h3.seq hS
  ·rintro i x Z H' hz ⟨nv,rfl,h3,h4⟩;refine⟨_,rfl,p,dx,fl,rfl,h3 p _ hp,hm "has" (by decide),_,rfl,p,x,kvs,rfl,hsh x (xAu hz),⟨dx,fl,dw,o,h3 p _ hp,hm,hw,h3 dw _ hk⟩,λH2 s2=>⟨_,rfl,?_⟩⟩;cases hb:dM kvs x with
   | true=>
    refine gP ⟨some x,rfl,h3.trans s2,?_⟩;rw[xBl,hz,xIo,h4];simp[hb]
   | false=>
    refine jR ⟨by show 1<=sizeLine; decide,?_⟩
    have:=q H2 (h3.trans s2)
    rw[xAy ?_] at this
    ·exact this
    ·intro z'
     have:=xBn.mp z' x (xAu hz)
     rw[hb] at this;cases this
  ·rintro Z H' ⟨nv,rfl,h3,h4⟩;rw[xBa] at h4
   have:=q H' h3
   rw[xBe h4] at this;exact this
theorem aQz {K:xAd}{H H':Hp}{a x C dx:Addr}{fs:List (Str×V)}{xs:List V}(e:SameBut x H H')(hx:H x=some (.ins C dx fs))(h:SqL K H a xs):SqL K H' a xs:=by
 rcases h with (h | ⟨o,h⟩) | h
 ·exact .inl (.inl (e _ _ (λz=>by rw[z,hx] at h; cases h) h))
 ·exact .inl (.inr ⟨o,e _ _ (λz=>by rw[z,hx] at h; cases h) h⟩)
 ·exact .inr h
theorem noW (v:V):∀ m∈aLg,List.lookup m [(("weights" : Str),v)]=none:=by
 have h:∀ m∈aLg,(m==("weights" : Str))=false:=by decide +kernel
 intro m hm;simp only[List.lookup,h m hm]
theorem aTx (v u:V):∀ m∈aLg,List.lookup m [(("weights" : Str),v),(("free_marks" : Str),u)]=none:=by
 have h:∀ m∈aLg,(m==("weights" : Str))=false/\(m==("free_marks" : Str))=false:=by decide +kernel
 intro m hm;simp only[List.lookup,(h m hm).1,(h m hm).2]
theorem aMo (kvs:List (Key×V))(fs:List Str):(fs.map V.str).all (dM kvs)=fs.all (λz=>aZ z&&(dC kvs (Sum.inr z)).isSome):=by
 rw[xHj];rfl
theorem vG {fs:List Str}(h:rQ fs):∀ x∈fs.map V.str,aBa x:=λx hx=>by
 obtain⟨z,hz,rfl⟩:=xBc.mp hx;exact .inl ⟨z,rfl,h z hz⟩
theorem sK:∀ (ss:List Str) (wv:Int) (kvs:List (Key×V)) (z:Str),(dC (wts ss wv kvs) (Sum.inr z)).isSome=(decide (z∈ss)||(dC kvs (Sum.inr z)).isSome)
 | [],_,kvs,z=>by simp[wts]
 | s::r,wv,kvs,z=>by
  rw[wts,sK r,lD]
  by_cases h:z=s
  ·subst h
   simp
  ·rw[xAy λe=>h (Sum.inr.inj e)];simp[h]
theorem scI:aQ ["self","names","free","free_names"] ["self","names","free"] (aB iR):=xfs
theorem aOn {f fR fW fK fQ C:Addr}{fd fdR fdW fdK fdQ:FuncData}{cl:Why->Addr}(F:aMx K "__init__" "Deeds.__init__" iR f fd)(T:Txt K mg)(DC:aDr K C)
  (GR:aY P w K mg base (CXE P w) 2 fR fdR ["names"] (yQ K cl))(kR:keepIn K (.ref fR)=true)(bR:aW K fdR ["names"] [])(mR:mg "refuse_names" = some (.ref fR))
  (GW:aY P w K mg base CX0 1 fW fdW ["names"] (vL K))(kW:keepIn K (.ref fW)=true)(bW:aW K fdW ["names"] [])(mW:mg "weights_of" = some (.ref fW))
  (GK:aY P w K mg base CX0 1 fK fdK ["names"] (rX K))(kK:keepIn K (.ref fK)=true)(bK:aW K fdK ["names"] [])(mK:mg "marks_of" = some (.ref fK))
  (GQ:aY P w K mg base (CXE P w) 3 fQ fdQ ["self","row"] (jP K C cl))(bQ:aW K fdQ ["self","row"] [])(mQ:fV K C "require" fQ) :
  aY P w K mg base (CXE P w) 4 f fd ["self","names","free"] (aJc K C cl):=by
 refine aTw F scI (λvs H Q E h=>?_) (λcdv A outer s H vs Q E hr h D=>?_)
 ·obtain⟨x,a,y,dx,ss,fs,rfl,_⟩:=h;rfl
 ·obtain⟨x,a,y,dx,ss,fs,rfl,hx,hA,hB,hsh,hfh,hfl,q⟩:=h;have hr1:cL 1 _:=hr.mono (by decide);have hr2:cL 2 _:=hr.mono (by decide)
  refine⟨_,aK (cW (bV GR hr2 rfl mR kR bR .nil (D.passes λ_ _ _ z=>z) (pac (pv 1) aH)))
   (aK (kH (pv 0) (aGk (bV GW hr1 rfl mW kW bW .nil cA (pac (pv 1) aH))) rfl)
   (dZ (λZ H'=>∃ b d o ss',Z=[some (.ref x),some (.ref a),some y,some (.ref b)]/\H' x=some (.ins C dx [("weights",.ref d)])/\H' d=some (.frz o (.dK (wts ss' 1 [])))/\SameBut x H H'/\SqL K H' b (fs.map V.str)/\ss'.Perm ss/\xBr ss'=true)
    (bJ (i:=3) scI.nd rfl (xAx rfl) (zO (cB aKo (pv 2) jJ (cO _)) (cM aH) (pv 2)))
   (aK (cW (eA (pv 0) DC.cl mQ GQ hr bQ .nil (D.passes λ_ _ _ z=>z) (pac (pv 3) aH)))
   (aL (kH (pv 0) (bV GK hr1 rfl mK kK bK .nil cA (pac (pv 3) aH)) rfl))))),?_⟩
  refine⟨_,rfl,a,ss,rfl,hA,hsh,λH1 s1=>?_⟩;have sb:∀ {H'},aO H H'->SameBut x H H':=λsm b o _ e=>sm b o e;cases hR:iY ss with
  | some k=>
   have:=q H1 (sb s1)
   unfold lX at this;rw[hR] at this;exact this
  | none=>
   have h12:ss.length<=12:=by
    unfold iY at hR
    by_cases z:12<ss.length
    ·rw[xBe z] at hR; cases hR
    ·omega
   refine⟨_,rfl,a,ss,rfl,s1.seq hA,by omega,λd ss' H2 s2 hd pm so hd2=>⟨d,_,rfl,hd2,λo=>?_⟩⟩;have hx2:=s2 x _ (s1 x _ hx);have ndx:d≠x:=λz=>by rw[z,hx2] at hd2; cases hd2
   have hx2':(upd H2 d (.frz o (.dK (wts ss' 1 [])))) x=some (.ins C dx []):=by rw[aG (Ne.symm ndx)]; exact hx2
   refine⟨_,rfl,x,C,dx,[],rfl,hx2',DC.cl,DC.nw,by decide,?_⟩;generalize hH3:upd (upd H2 d (.frz o (.dK (wts ss' 1 [])))) x (.ins C dx (gY "weights" (.ref d) []))=H3;have hx3:H3 x=some (.ins C dx [("weights",.ref d)]):=by rw[<- hH3,aD]; rfl
   have hd3:H3 d=some (.frz o (.dK (wts ss' 1 []))):=by rw[<- hH3,aG ndx,aD]
   have hHd:H d=none:=by
    cases e:H d with
    | none=>rfl
    | some u=>rw[s1 d u e] at hd; cases hd
   have s3:SameBut x H H3:=λb o n e=>by rw[<- hH3,aG n,aG (aF e hHd)]; exact s2 b o (s1 b o e)
   have hB3:(y=.non/\fs=[])\/∃ b,y=.ref b/\SqL K H3 b (fs.map V.str):=hB.imp id λ⟨b,e,h⟩=>⟨b,e,aQz s3 hx h⟩;refine⟨?_,?_⟩
   ·rcases hB3 with⟨rfl,rfl⟩ | ⟨b,rfl,hB3⟩
    ·refine⟨_,rfl,rfl,_,rfl,fU (λ_=>⟨by show 0<=sizeLine; decide,λl hl=>⟨l,d,o,ss',rfl,?_,?_,?_,SqL.of aD,pm,so⟩⟩) λz=>xBg (xAv rfl) z⟩
     ·rw[aG (aF hx3 hl)]; exact hx3
     ·rw[aG (aF hd3 hl)]; exact hd3
     ·exact λc u n e=>by rw[aG (aF (s3 c u n e) hl)]; exact s3 c u n e
    ·exact⟨_,rfl,rfl,_,rfl,fU (λz=>xBg (xAp z) (by intro z; cases z)) λ_=>⟨_,rfl,b,d,o,ss',rfl,hx3,hd3,s3,hB3,pm,so⟩⟩
   clear hB3 hd3 hx3 s3 hH3 H3 hx2' hx2 ndx hd2;rintro Z H3 ⟨b,d,o,ss',rfl,hx3,hd3,s3,hB3,pm,so⟩
   have e4:∀ z,(dC (wts ss' 1 []) (Sum.inr z)).isSome=decide (z∈ss):=λz=>by
    rw[sK];simp[dC,pm.mem_iff]
   refine⟨_,rfl,x,dx,_,rfl,hx3,by rfl,_,rfl,x,b,fs.map V.str,_,rfl,hB3,vG hfh,⟨dx,_,d,o,hx3,noW _,by rfl,hd3⟩,λH4 s4=>?_⟩;have s4':SameBut x H H4:=λb o n e=>s4 b o (s3 b o n e);rw[aMo];simp only[e4];have q4:=q;unfold lX at q4;rw[hR] at q4;have ndx:d≠x:=λz=>by rw[z,hx3] at hd3; cases hd3
   by_cases hall:fs.all (λf=>aZ f&&decide (f∈ss))=true
   ·simp only[if_pos hall] at q4 ⊢;refine⟨_,rfl,b,fs,rfl,s4.seq hB3,hfl,λdf H5 s5 hdf hdf5=>?_⟩;have hx5:=s5 x _ (s4 x _ hx3);have ndf:df≠x:=λz=>by rw[z,hx5] at hdf5; cases hdf5
    refine⟨_,rfl,x,C,dx,_,rfl,hx5,DC.cl,DC.nf,by show 1<1000; decide,?_⟩;refine q4 _ (λb o n e=>by rw[aG n]; exact s5 b o (s4' b o n e)) d df o ss' (by rw[aD]; rfl) (by rw[aG ndx]; exact s5 d _ (s4 d _ hd3)) (by rw[aG ndf]; exact hdf5) pm so
   ·simp only[if_neg hall] at q4 ⊢;exact q4 H4 s4'
abbrev jW:List Str:=["go","a","b1","stop","r0","r1","open","x","yy","z9","longname","c"]
def hG (c:Int):Int:=([1,5,7,11]:List Int).getD (c/12%4).toNat 1
def qM (c:Int)(k:Nat):Str:=jW.getD ((c+hG c*k)%12).toNat ""
def eP (c:Int)(n:Nat):List Str:=(List.range n).map (qM c)
def iA (c:Int):Nat:=if c/8%16=1 then (c/128%2).toNat else ([2,3,3,4,4,5,6,12]:List Nat).getD (c%8).toNat 0
def qV (c:Int)(ss:List Str):List Str:=(List.range ss.length).filterMap λ(k:Nat)=>if RW.mixed c (k:Nat)%4=1 then ss[k]? else none
theorem iU {α β:Type}(f:α->β)(xs:List α)(d:α){i:Int}(h0:0<=i)(h1:i<xs.length):atI (xs.map f) i=some (f (xs.getD i.toNat d)):=by
 have hl:i.toNat<xs.length:=by omega
 have e:i=(i.toNat:Int):=by omega
 have h:=iF (xs:=xs.map f) (j:=i.toNat) (v:=f (xs.getD i.toNat d)) (by rw[xAg,xCk,xAh hl]; rfl);rw[<- e] at h;exact h
theorem cK (c:Int){m:Int}(h:0<m):0<=c%m/\c%m<m:=⟨Int.emod_nonneg _ (by omega),Int.emod_lt_of_pos _ h⟩
theorem aIv:∀ n,n<4->([1,5,7,11]:List Int).getD n 1=1\/([1,5,7,11]:List Int).getD n 1=5\/([1,5,7,11]:List Int).getD n 1=7\/([1,5,7,11]:List Int).getD n 1=11:=by decide +kernel
theorem jU (c:Int):hG c=1\/hG c=5\/hG c=7\/hG c=11:=by
 have h:=cK (c/12) (m:=4) (by decide);exact aIv _ (by omega)
theorem aLj:∀ n,n<8->([2,3,3,4,4,5,6,12]:List Nat).getD n 0<=12/\(([2,3,3,4,4,5,6,12]:List Int).getD n 0)=((([2,3,3,4,4,5,6,12]:List Nat).getD n 0:Nat):Int):=by decide +kernel
theorem wB (c:Int):([2,3,3,4,4,5,6,12]:List Nat).getD (c%8).toNat 0<=12/\(([2,3,3,4,4,5,6,12]:List Int).getD (c%8).toNat 0)=((([2,3,3,4,4,5,6,12]:List Nat).getD (c%8).toNat 0:Nat):Int):=by
 have h:=cK c (m:=8) (by decide);exact aLj _ (by omega)
theorem nF (c:Int):iA c<=12:=by
 unfold iA;split
 ·have h:=cK (c/128) (m:=2) (by decide);omega
 ·exact (wB c).1
def lW (c:Int)(ss:List Str)(i:Nat):List Str:=(List.range i).filterMap λ(k:Nat)=>if RW.mixed c (k:Nat)%4=1 then ss[k]? else none
inductive vO (K:xAd)(vs:List V)(H:Hp)(Q:VK)(x3_:XK):Prop
 | mk (c:Int)(n:Nat)(h0_:vs=[.int c,.int n])(h1_:n<=1000)(h2_:∀ (l:Addr) H',aO H H'->H l=none->H' l=some (.lst ((eP c n).map V.str))->Q (.ref l) H')
inductive vR (K:xAd)(vs:List V)(H:Hp)(Q:VK)(x3_:XK):Prop
 | mk (c:Int)(h0_:vs=[.int c])(h1_:∀ (t l m:Addr) H',aO H H'->H' t=some (.tup [.ref l,.ref m])->H' l=some (.lst ((eP (c/256) (iA c)).map V.str))->H' m=some (.lst ((qV c (eP (c/256) (iA c))).map V.str))->Q (.ref t) H')
abbrev NB:List Str:=["_law_cell","_law_many","_law_some","_law_step_here"]
theorem scB:aQ NB ["_law_cell","_law_many"] (aB lJ):=xfs
theorem aCi {f:Addr}{fd:FuncData}(F:Fun K "_law_names_by" "_law_names_by" lJ f fd)(T:Txt K mg):aY P w K mg base CX0 1 f fd ["_law_cell","_law_many"] (vO K):=by
 refine F.ok scB (λvs H Q E h=>?_) (λcdv A outer s H vs Q E hr h=>?_)
 ·obtain⟨c,n,rfl,_⟩:=h;rfl
 ·obtain⟨c,n,rfl,hn,q⟩:=h
  refine⟨_,aK (bJ (i:=2) scB.nd rfl (xHg rfl) (cM (pac aS (pac aS (pac aS (pac aS (pac aS (pac aS (pac aS (pac aS (pac aS (pac aS (pac aS (pac aS aH))))))))))))))
   (aK (bJ (i:=3) scB.nd rfl (xHg rfl) (eE cY (cM (pac aN (pac aN (pac aN (pac aN aH))))) (aX dD (aX fJ (pv 0) aN) aN) (λ_ _=>rfl)))
   (aL (bO (dW (N':=["_law_k","_law_some","_law_cell","_law_step_here"]) (nown:=1) (js:=[2,0,3]) rfl
     xbs (cF (aB lJ) NB rfl rfl (by decide +kernel))
     ⟨λ_ _ _ _=>aP (i:=0) (show List.Nodup (["_law_k","_law_some","_law_cell","_law_step_here"]:List Str) by decide +kernel) rfl (xAx rfl) (.inr rfl),λ_ _ _ _=>dU,
      λ_ _ _ _=>eE (show IxR _ (zG K) from cY) (pv 1) (aX dD (aX dY (pv 2) (aX nX (pv 3) (pv 0))) aN) (λ_ _=>rfl)⟩
     (gN rfl T.range (pac (pv 1) aH)))))),?_⟩
  have sl:sizeLine=16777216:=sizeLine_eq;have g4:=cK (c/12) (m:=4) (by decide);refine⟨by show 12<=sizeLine; decide,λp hp=>⟨by show 4<=sizeLine; decide,λp2 hp2=>⟨_,rfl,_,_,rfl,rfl,⟨by decide,by decide⟩,_,_,rfl,rfl,(by show (0:Int)<4; decide),p2,_,_,V.int (hG c),rfl,rfl,SqL.of aD,iU V.int [1,5,7,11] 1 g4.1 g4.2,?_⟩⟩⟩;have n12:p≠p2:=aF aD hp2;generalize hH2:upd (upd H p _) p2 _=H2;have e2:H2 p=some (.lst (jW.map V.str)):=by rw[<- hH2,aG n12,aD]; rfl
  have s2:aO H H2:=λb o e=>by
   have m1:b≠p:=aF e hp;have m2:b≠p2:=aF (show (upd H p _) b=some o by rw[aG m1]; exact e) hp2;rw[<- hH2,aG m2,aG m1];exact e
  refine⟨_,rfl,n,rfl,by omega,by omega,λD hD=>iP (n:=n) (λi Z' H'=>∃ v,Z'=[v,some (.ref p),some (.int c),some (.int (hG c))]/\H' D=some (.lst ((eP c i).map V.str))/\aO H2 H') ?_ ?_ ?_⟩
  ·exact⟨none,rfl,aD,λb o e=>by rw[aG (aF e hD)]; exact e⟩
  ·rintro i Z' H' hi ⟨v,rfl,hl',sm⟩;have g12:=cK (c+hG c*(0+(i:Int))) (m:=12) (by decide);refine⟨_,rfl,_,rfl,_,rfl,_,rfl,_,_,rfl,rfl,.inl ?_,_,_,rfl,rfl,_,_,rfl,rfl,(by show (0:Int)<12; decide),p,_,_,V.str (qM c i),rfl,rfl,SqL.of (sm p _ e2),?_,_,hl',?_,_,rfl,?_,?_⟩
   ·rcases jU c with h | h | h | h <;> (rw[h]; exact⟨by decide,by decide⟩)
   ·have h:=iU V.str jW "" g12.1 g12.2;rw[h,xDy];rfl
   ·refine aR ?_;rw[xAa];unfold eP;rw[xAa,xBv];omega
   ·rw[aD];unfold eP;rw[xDh,xAn,xAn];rfl
   ·intro b o e;rw[aG (aF e hD)];exact sm b o e
  ·rintro Z' H' ⟨v,rfl,hl',sm⟩;refine q D H' (s2.trans sm) ?_ hl';exact s2.free hD
abbrev ND:List Str:=["_law_cell","_law_many","_law_names"]
theorem scD:aQ ND ["_law_cell"] (aB oR):=xfs
theorem aCl {f fM fB:Addr}{fd fdM fdB:FuncData}(F:Fun K "_law_deeds_by" "_law_deeds_by" oR f fd)(T:Txt K mg)
  (FM:Fun K "_law_mixed" "_law_mixed" tE fM fdM)(bM:aW K fdM ["_law_cell","_law_k"] [])(mM:mg "_law_mixed" = some (.ref fM))
  (FB:Fun K "_law_names_by" "_law_names_by" lJ fB fdB)(bB:aW K fdB ["_law_cell","_law_many"] [])(mB:mg "_law_names_by" = some (.ref fB)):aY P w K mg base CX0 2 f fd ["_law_cell"] (vR K):=by
 have GM:aY P w K mg base CX0 1 fM fdM ["_law_cell","_law_k"] oK:=pD FM;have GB:aY P w K mg base CX0 1 fB fdB ["_law_cell","_law_many"] (vO K):=aCi FB T;refine F.ok scD (λvs H Q E h=>?_) (λcdv A outer s H vs Q E hr h=>?_)
 ·obtain⟨c,rfl,_⟩:=h;rfl
 ·obtain⟨c,rfl,q⟩:=h
  refine⟨_,aK (bJ (i:=1) scD.nd rfl (xAx rfl) (eE cY (cM (pac aN (pac aN (pac aN (pac aN (pac aN (pac aN (pac aN (pac aN aH))))))))) (aX dD (pv 0) aN) (λ_ _=>rfl)))
   (dZ (λZ H'=>Z=[some (.int c),some (.int (iA c)),none]/\aO H H')
    (dR (cB pC (aX dD (aX fJ (pv 0) aN) aN) aN (cO _))
     (aL (bJ (i:=1) scD.nd rfl (xAx rfl) (aX dD (aX fJ (pv 0) aN) aN))) cG)
   (aK (bJ (i:=2) scD.nd rfl (xAx rfl) (bV GB hr rfl mB FB.kp bB .nil cA (pac (aX fJ (pv 0) aN) (pac (pv 1) aH))))
   (aL (bO (hU (pac (pv 2) (pac (dW (N':=["_law_k","_law_name","_law_cell"]) (nown:=2) (js:=[0]) rfl
     xbs (cF (aB oR) ND rfl rfl (by decide +kernel))
     ⟨λ_ _ _ _=>show PG _ _ (uX K 2 (gC (eK 0) (gC (eK 1) uY))) from eC rfl (aU (aP (i:=0) (show List.Nodup (["_law_k","_law_name","_law_cell"]:List Str) by decide +kernel) rfl (xAx rfl) (.inr rfl)) (aU (aP (i:=1) (show List.Nodup (["_law_k","_law_name","_law_cell"]:List Str) by decide +kernel) rfl (xAx rfl) (.inr rfl)) dG)),
      λ_ _ _ _=>jZ (cB pC (aX dD (bV GM hr rfl mM FM.kp bM .nil cA (pac (pv 2) (pac (pv 0) aH))) aN) aN (cO _)),
      λ_ _ _ _=>pv 1⟩
     (iZ rfl T.enum (pac (pv 2) aH))) aH))))))),?_⟩
  have sl:sizeLine=16777216:=sizeLine_eq;have g8:=cK c (m:=8) (by decide);refine⟨by show 8<=sizeLine; decide,λp hp=>⟨_,rfl,_,_,rfl,rfl,(by show (0:Int)<8; decide),p,_,_,V.int _,rfl,rfl,SqL.of aD,iU V.int [2,3,3,4,4,5,6,12] 0 g8.1 g8.2,?_,?_⟩⟩
  ·have s1:∀ o,aO H (upd H p o):=λo b u e=>by rw[aG (aF e hp)]; exact e
   refine⟨_,rfl,_,_,rfl,rfl,⟨by decide,by decide⟩,_,_,rfl,rfl,(by show (0:Int)<16; decide),rfl,_,rfl,fU (λh1=>?_) (λh1=>?_)⟩
   ·have e1:c/8%16=1:=by have:=xAp h1; exact V.int.inj this
    have g2:=cK (c/128) (m:=2) (by decide);refine⟨_,rfl,_,_,rfl,rfl,⟨by decide,by decide⟩,_,_,rfl,rfl,(by show (0:Int)<2; decide),?_,s1 _⟩;have e:((iA c:Nat):Int)=c/128%2:=by unfold iA; rw[xBe e1]; omega
    rw[e];rfl
   ·have e1:¬ c/8%16=1:=λz=>h1 (xAv (congrArg V.int z));refine⟨?_,s1 _⟩;have e:((iA c:Nat):Int)=([2,3,3,4,4,5,6,12]:List Int).getD (c%8).toNat 0:=by unfold iA; rw[xAy e1]; exact (wB c).2.symm
    rw[e];rfl
  ·rintro Z H1 ⟨rfl,s1⟩;refine⟨_,rfl,_,_,rfl,rfl,⟨by decide,by decide⟩,_,rfl,c/256,iA c,rfl,xAr (nF c) (by decide),λl H2 s2 hl hl2=>?_⟩;generalize hss:eP (c/256) (iA c)=ss at *;have hlen:ss.length=iA c:=by rw[<- hss]; unfold eP; rw[xAa,xBv]
   have hle:=nF c;refine⟨_,rfl,_,rfl,l,rfl,⟨_,SqL.of hl2⟩,λD hD=>pT (xs:=ss.map V.str) (λi Z' H'=>∃ v0 v1,Z'=[v0,v1,some (.int c)]/\H' D=some (.lst ((lW c ss i).map V.str))/\aO H2 H'/\(lW c ss i).length<=i) ?_ ?_ ?_ ?_⟩
   ·exact⟨none,none,rfl,aD,λb o e=>by rw[aG (aF e hD)]; exact e,xAi _⟩
   ·rintro i Z' H' _ ⟨v0,v1,rfl,h1,h2,h3⟩;exact SqL.of (h2 l _ hl2)
   ·rintro i x Z' H' t hx ⟨v0,v1,rfl,h1,h2,h3⟩ ht;rw[xAg] at hx;cases hz:ss[i]? with
    | none=>rw[hz] at hx; cases hx
    | some z=>
     rw[hz] at hx;cases hx;have hi:i<ss.length:=(xAc.mp hz).1;have nD:D≠t:=λe=>by rw[e,ht] at h1; cases h1
     have sT:aO H2 (upd H' t (.tup [.int i,.str z])):=λb o e=>by rw[aG (aF (h2 b o e) ht)]; exact h2 b o e
     refine⟨t,_,rfl,SqT.of aD,rfl,_,_,rfl,_,_,rfl,rfl,_,rfl,_,rfl,c,i,rfl,_,_,rfl,rfl,(by show (0:Int)<4; decide),rfl,_,rfl,fU (λh4=>?_) (λh4=>?_)⟩
     ·have e4:RW.mixed c i%4=1:=by have:=xAp h4; exact V.int.inj this
      have eu:lW c ss (i+1)=lW c ss i++[z]:=by
       unfold lW;rw[xDh,xDi];simp[e4,hz]
      refine⟨_,rfl,_,by rw[aG nD]; exact h1,aR (by rw[xAa]; omega),some (.int i),some (.str z),rfl,?_,?_,?_⟩
      ·rw[aD,eu,xAn];rfl
      ·intro b o e;rw[aG (aF e hD)];exact sT b o e
      ·rw[eu,xAj];show _+1<=_;omega
     ·have e4:¬ RW.mixed c i%4=1:=λz=>h4 (xAv (congrArg V.int z))
      have eu:lW c ss (i+1)=lW c ss i:=by
       unfold lW;rw[xDh,xDi];simp[e4]
      refine⟨some (.int i),some (.str z),rfl,?_,sT,by rw[eu]; omega⟩;rw[aG nD,eu];exact h1
   ·rintro Z' H' ⟨v0,v1,rfl,h1,h2,h3⟩;refine⟨by show 2<=sizeLine; decide,λt ht=>?_⟩;rw[xAa] at h1;have sT:∀ o,aO H' (upd H' t o):=λo b u e=>by rw[aG (aF e ht)]; exact e
    exact q t l D _ (((s1.trans s2).trans h2).trans (sT _)) aD (sT _ _ _ (h2 l _ hl2)) (sT _ _ _ h1)

theorem aVj:bootBuiltins "ValueError" = some (.type "ValueError"):=by decide +kernel
theorem PE.weak {X:Cx}{e:Expr}{t t':TE}(h:PE X e t)(k:∀ Z H Q,t' Z H Q->t Z H Q):PE X e t':=by
 unfold PE at h ⊢;exact λpins s Z H Q I q=>h pins s Z H Q I (k Z H Q q)
abbrev nms:List Str:=["NoName","NoDeed","NoRoom","TwiceTold","TooMany","NoRule","NoRow","NoHold","NoHolder","FreeDeed","NotNow","NoWarden","NoText","NoBook"]
abbrev iK:List Nat:=[4]
def pY (ds:Nat->Addr)(C:Addr):Option Str:=if C=ds 4 then some "TooMany" else none
theorem vB {ds:Nat->Addr}{C:Addr}{x:Str}(h:pY ds C=some x):∃ i∈iK,C=ds i/\nms[i]?=some x:=by
 unfold pY at h
 by_cases h4:C=ds 4
 ·rw[xBe h4] at h; cases h; exact⟨4,by decide,h4,rfl⟩
 rw[xAy h4] at h;cases h
def aMz (mg:xSO):List Str->List Addr->Prop
 | n::ns,a::as=>mg n=some (.ref a)/\aMz mg ns as
 | [],_=>True
 | _,_=>False
theorem wF {mg:xSO}:∀ {ns:List Str}{as:List Addr},aMz mg ns as->∀ (j:Nat) x,ns[j]?=some x->mg x=some (.ref (as.getD j 0))
 | [],_,_,j,x,h=>by simp at h
 | _::_,[],e,_,_,_=>e.elim
 | n::ns,a::as,e,0,x,h=>by
  have:n=x:=by simpa using h
  rw[<- this];exact e.1
 | n::ns,a::as,e,j+1,x,h=>wF e.2 j x (by simpa using h)
structure Wd (K:xAd)(mg:xSO)(ds:Nat->Addr):Prop where
 m:∀ (j:Nat) x,nms[j]?=some x->mg x=some (.ref (ds j))
 ek:∀ i∈iK,aBd K (ds i)
 kit:∀ i∈iK,∀ j,j<14->kitOne K (.ref (ds i)) (.ref (ds j))=some (decide (i=j))
 ve:∀ i∈iK,kitOne K (.ref (ds i)) (.type "ValueError")=some true
 mve:mg "ValueError"=none
def tWd (K:xAd)(W:Str)(d:Addr):TE:=λZ H Q=>∃ e C b,Z[0]?=some (some (.ref e))/\aFl H e C/\aBd K C/\kitOne K (.ref C) (.ref d)=some b /\
 ∀ p H',aO H H'->H' p=some (.lst ((if b then [W] else []).map V.str))->Q (.ref p) H'
def wP (i n:Nat):List Str:=(List.range n).filterMap λj=>if i=j then nms[j]? else none
theorem mV (i n:Nat){W:Str}(h:nms[n]?=some W):wP i (n+1)=wP i n++(if decide (i=n) then [W] else []):=by
 unfold wP;rw[xDh,xDi]
 by_cases e:i=n
 ·subst e; simp[h]
 ·simp[e]
theorem aIm (i n:Nat):(wP i n).length<=n:=by
 unfold wP;exact xAr (xCx ..) (by rw[xBv]; exact xAi _)
theorem aSx {H:Hp}{l p:Addr}{o o':HO}(hl:H l=none)(hp:(upd H l o) p=none):aO H (upd (upd H l o) p o'):=λb u e=>by
 have m1:b≠l:=aF e hl;have m2:b≠p:=aF (show (upd H l o) b=some u by rw[aG m1]; exact e) hp;rw[aG m2,aG m1];exact e
theorem jB {X:Cx}{W:Str}{d:Addr}{j:Nat}{p1 p2 p3 p4 p5 p6 p7 p8 p9:Pos}(hN:X.N[0]?=some ("_law_e" : Str))(hv:Vis X.env.scope ("_law_e" : Str))(gi:Gl X "int")(mi:X.mg "int" = none)(gs:Gl X "isinstance")(ms:X.mg "isinstance" = none)
  (gW:Gl X W)(mW:X.mg W=some (.ref d))(hd:(W==("__debug__" : Str))=false) :
  PE X (.BinOp (.List [.Constant (.str W) j p1] p2) .Mult (.Call (.Name "int" p3) [.Call (.Name "isinstance" p4) [.Name "_law_e" p5,.Name W p6] [] p7] [] p8) p9) (tWd X.K W d):=
 PE.weak (aX aKk (cM (pac aS aH)) (eG aHx gi mi Bo.int (pac (cC wI gs ms Bo.isinstance (pac (qG hN hv) (pac (jC (v:=.ref d) gW mW rfl hd) aH)) (he:=bY rfl) (hpl:=rfl)) aH) (he:=bY rfl) (hpl:=rfl)))
  (λZ H Q ⟨e,C,b,h0,hx,ek,kt,q⟩=>⟨by show 1<=sizeLine; decide,λl hl=>⟨_,h0,e,C,_,_,b,rfl,aNu,(show upd H l _ e=_ by rw[aG (aF hx hl)]; exact hx),ek,kt,.inr ⟨_,rfl,l,_,_,rfl,rfl,aD,by cases b <;> decide,by cases b <;> decide,(by cases b <;> (show _<=16777216; simp)),λp hp=>q p _ (aSx hl hp) (by rw[aD]; cases b <;> rfl)⟩⟩⟩)
def wdJ (e:Addr)(H:Hp)(i n:Nat)(Z:St)(H':Hp):Prop:=∃ p,Z=[some (.ref e),some (.ref p)]/\aO H H'/\H' p=some (.lst ((wP i n).map V.str))
section
variable {K:xAd}{mg:xSO}{ds:Nat->Addr}(W:Wd K mg ds){i:Nat}(hi:i∈iK){e:Addr}{H:Hp}(hx:aFl H e (ds i))
include W hi hx
theorem aIi {D:rV}{v:Option V}:aIu (tOp aNy (tWd K "NoName" (ds 0)) (tWd K "NoDeed" (ds 1))) (eK 1) { D with nx:=wdJ e H i 2 } [some (.ref e),v] H:=by
 have ek:=W.ek i hi;refine⟨e,_,_,rfl,hx,ek,W.kit i hi 0 (by decide),λp0 H0 s0 h0=>⟨e,_,_,rfl,s0 e _ hx,ek,W.kit i hi 1 (by decide),λp1 H1 s1 h1=>⟨p0,p1,_,_,rfl,rfl,s1 _ _ h0,h1,?_,λp hp=>⟨p,rfl,(s0.trans s1).trans (λb u z=>by rw[aG (aF z hp)]; exact z),?_⟩⟩⟩⟩
 ·have sl:sizeLine=16777216:=sizeLine_eq
  have:∀ (b:Bool) (x:Str),((if b then [x] else []).map V.str).length<=1:=λb x=>by cases b <;> simp
  have a1:=this (decide (i=0)) "NoName";have a2:=this (decide (i=1)) "NoDeed";omega
 ·rw[aD,mV i 1 (W:="NoDeed") rfl,mV i 0 (W:="NoName") rfl,xAn,xAn];rfl
theorem pZ {D:rV}{n:Nat}{U U':Str}(hn:n+1<14)(h1:nms[n]?=some U)(h2:nms[n+1]?=some U'){Z:St}{H1:Hp}(J:wdJ e H i n Z H1) :
  aIu (tOp aNy (tOp aNy (yK 1) (tWd K U (ds n))) (tWd K U' (ds (n+1)))) (eK 1) { D with nx:=wdJ e H i (n+2) } Z H1:=by
 obtain⟨p,rfl,sm,hp⟩:=J;have ek:=W.ek i hi;have sl:sizeLine=16777216:=sizeLine_eq;have l1:∀ (b:Bool) (x:Str),((if b then [x] else []).map V.str).length<=1:=λb x=>by cases b <;> simp
 have l2:=aIm i n;refine⟨_,rfl,e,_,_,rfl,sm e _ hx,ek,W.kit i hi n (by omega),λpa Ha sa ha=>⟨p,pa,_,_,rfl,rfl,sa _ _ hp,ha,?_,λpc hpc=>?_⟩⟩
 ·have:=l1 (decide (i=n)) U
  rw[xAa];omega
 have sc:aO Ha (upd Ha pc (.lst ((wP i n).map V.str++(if decide (i=n) then [U] else []).map V.str))):=λb u z=>by rw[aG (aF z hpc)]; exact z
 refine⟨e,_,_,rfl,sc e _ (sa e _ (sm e _ hx)),ek,W.kit i hi (n+1) hn,λpb Hb sb hb=>⟨pc,pb,_,_,rfl,rfl,sb _ _ aD,hb,?_,λpd hpd=>⟨pd,rfl,(((sm.trans sa).trans sc).trans sb).trans (λb u z=>by rw[aG (aF z hpd)]; exact z),?_⟩⟩⟩
 ·have a1:=l1 (decide (i=n)) U;have a2:=l1 (decide (i=n+1)) U';rw[xAj,xAa];omega
 ·rw[aD,mV i (n+1) h2,mV i n h1,xAn,xAn]
end
abbrev NW:List Str:=["_law_e","_law_words"]
theorem yW:aQ NW ["_law_e"] (aB aJm):=xfs
theorem aIn:∀ i∈iK,∀ x,nms[i]?=some x->wP i 14=[x]:=by
 intro i hi x hx
 have:∀ i∈iK,wP i 14=(nms[i]?).toList:=by decide +kernel
 rw[this i hi,hx];rfl
theorem aOg {f:Addr}{fd:FuncData}{ds:Nat->Addr}(F:Fun K "_law_word" "_law_word" aJm f fd)(T:Txt K mg)(W:Wd K mg ds):aBc P w K mg base 1 f fd ["_law_e"] (aBn (pY ds)):=by
 refine F.okU yW (λvs H Q E h=>?_) (λcdv A outer s H vs Q hr h=>?_)
 ·obtain⟨e,C,x,rfl,_⟩:=h;rfl
 ·obtain⟨e,C,x,rfl,hx,hw,q⟩:=h;obtain⟨i,hi,rfl,hnm⟩:=vB hw
  refine⟨_,dZ (wdJ e H i 2) (bJ (i:=1) yW.nd rfl (xAx rfl) (aX eZ (jB (W:="NoName") rfl (xAx rfl) rfl T.int rfl T.isi rfl (W.m 0 _ rfl) (by decide)) (jB (W:="NoDeed") rfl (xAx rfl) rfl T.int rfl T.isi rfl (W.m 1 _ rfl) (by decide))))
   (dZ (wdJ e H i 4) (bJ (i:=1) yW.nd rfl (xAx rfl) (aX eZ (aX eZ (pv 1) (jB (W:="NoRoom") rfl (xAx rfl) rfl T.int rfl T.isi rfl (W.m 2 _ rfl) (by decide))) (jB (W:="TwiceTold") rfl (xAx rfl) rfl T.int rfl T.isi rfl (W.m 3 _ rfl) (by decide))))
   (dZ (wdJ e H i 6) (bJ (i:=1) yW.nd rfl (xAx rfl) (aX eZ (aX eZ (pv 1) (jB (W:="TooMany") rfl (xAx rfl) rfl T.int rfl T.isi rfl (W.m 4 _ rfl) (by decide))) (jB (W:="NoRule") rfl (xAx rfl) rfl T.int rfl T.isi rfl (W.m 5 _ rfl) (by decide))))
   (dZ (wdJ e H i 8) (bJ (i:=1) yW.nd rfl (xAx rfl) (aX eZ (aX eZ (pv 1) (jB (W:="NoRow") rfl (xAx rfl) rfl T.int rfl T.isi rfl (W.m 6 _ rfl) (by decide))) (jB (W:="NoHold") rfl (xAx rfl) rfl T.int rfl T.isi rfl (W.m 7 _ rfl) (by decide))))
   (dZ (wdJ e H i 10) (bJ (i:=1) yW.nd rfl (xAx rfl) (aX eZ (aX eZ (pv 1) (jB (W:="NoHolder") rfl (xAx rfl) rfl T.int rfl T.isi rfl (W.m 8 _ rfl) (by decide))) (jB (W:="FreeDeed") rfl (xAx rfl) rfl T.int rfl T.isi rfl (W.m 9 _ rfl) (by decide))))
   (dZ (wdJ e H i 12) (bJ (i:=1) yW.nd rfl (xAx rfl) (aX eZ (aX eZ (pv 1) (jB (W:="NotNow") rfl (xAx rfl) rfl T.int rfl T.isi rfl (W.m 10 _ rfl) (by decide))) (jB (W:="NoWarden") rfl (xAx rfl) rfl T.int rfl T.isi rfl (W.m 11 _ rfl) (by decide))))
   (dZ (wdJ e H i 14) (bJ (i:=1) yW.nd rfl (xAx rfl) (aX eZ (aX eZ (pv 1) (jB (W:="NoText") rfl (xAx rfl) rfl T.int rfl T.isi rfl (W.m 12 _ rfl) (by decide))) (jB (W:="NoBook") rfl (xAx rfl) rfl T.int rfl T.isi rfl (W.m 13 _ rfl) (by decide))))
   (aK (dR (rD (cB aKm (cC cZ (by rfl) T.len Bo.len (pac (pv 1) aH)) aN (cO _))
     (qE (kG (kE (cC wI (by rfl) T.isi Bo.isinstance (pac (pv 0) (pac (aEp (v:=.ty "ValueError") (by rfl) W.mve aVj rfl) aH))))))).pt
    (aL (bO aS)) cG)
   (aL (bO (eE cY (pv 1) aN (λ_ _=>rfl))))))))))),?_⟩
  refine⟨aIi W hi hx,λZ1 K1 J1=>⟨pZ W hi hx (n:=2) (by decide) rfl rfl J1,λZ2 K2 J2=>⟨pZ W hi hx (n:=4) (by decide) rfl rfl J2,λZ3 K3 J3=>⟨pZ W hi hx (n:=6) (by decide) rfl rfl J3,λZ4 K4 J4=>⟨pZ W hi hx (n:=8) (by decide) rfl rfl J4,
   λZ5 K5 J5=>⟨pZ W hi hx (n:=10) (by decide) rfl rfl J5,λZ6 K6 J6=>⟨pZ W hi hx (n:=12) (by decide) rfl rfl J6,λZ7 K7 J7=>?_⟩⟩⟩⟩⟩⟩⟩
  obtain⟨p,rfl,sm,hp⟩:=J7;rw[aIn i hi x hnm] at hp;exact⟨_,rfl,p,_,rfl,.inl (SqL.of hp),rfl,_,rfl,gP ⟨_,rfl,e,_,_,_,_,rfl,aBz,sm e _ hx,W.ek i hi,W.ve _ hi,_,rfl,gP ⟨_,rfl,p,_,_,_,rfl,rfl,SqL.of hp,rfl,q K7 sm⟩⟩⟩
theorem aEv:∀ x y:List Nat,xCi x y=false->xCi y x=false->x=y
 | [],[],_,_=>rfl
 | [],_::_,h,_=>by simp[PySem.Spec.ltCps] at h
 | _::_,[],_,h=>by simp[PySem.Spec.ltCps] at h
 | a::r,b::t,h,h'=>by
  simp only[PySem.Spec.ltCps,Bool.or_eq_false_iff,decide_eq_false_iff_not,Bool.and_eq_false_iff,beq_eq_false_iff_ne] at h h';have e:a=b:=by omega
  subst e;have h1:xCi r t=false:=by rcases h.2 with z | z; exact xBg rfl z; exact z
  have h2:xCi t r=false:=by rcases h'.2 with z | z; exact xBg rfl z; exact z
  rw[aEv r t h1 h2]
theorem aQf:∀ x y z:List Nat,xCi y x=false->xCi z y=false->xCi z x=false
 | [],_,[],_,_=>rfl
 | [],_,_::_,_,_=>rfl
 | _::_,[],_,h,_=>by simp[PySem.Spec.ltCps] at h
 | _::_,_::_,[],_,h=>by simp[PySem.Spec.ltCps] at h
 | a::r,b::t,c::u,h,h'=>by
  simp only[PySem.Spec.ltCps,Bool.or_eq_false_iff,decide_eq_false_iff_not,Bool.and_eq_false_iff,beq_eq_false_iff_ne] at h h' ⊢;refine⟨by omega,?_⟩
  by_cases e:c=a
  ·refine .inr ?_;have h1:xCi t r=false:=by rcases h.2 with z | z; exact xBg (by omega) z; exact z
   have h2:xCi u t=false:=by rcases h'.2 with z | z; exact xBg (by omega) z; exact z
   exact aQf r t u h1 h2
  ·exact .inl e
abbrev leS (a b:Str):Prop:=xCi b.cps.toList a.cps.toList=false
theorem tH:∀ (r:List Str) (p:Str),PyProof.Rows.risingS p r=true->(∀ z∈r,leS p z)/\r.Pairwise leS
 | [],_,_=>⟨λ_ h=>xBg h (by simp),xIb⟩
 | x::r,p,h=>by
  simp only[PyProof.Rows.risingS,Bool.and_eq_true,Bool.not_eq_true'] at h;obtain⟨h1,h2⟩:=tH r x h.2;refine⟨λz hz=>?_,.cons h1 h2⟩;rcases xAo.mp hz with rfl | hz
  ·exact h.1
  ·exact aQf _ _ _ h.1 (h1 z hz)
theorem qB {l:List Str}(h:xBr l=true):l.Pairwise leS:=by
 cases l with
 | nil=>exact .nil
 | cons x r=>
  obtain⟨h1,h2⟩:=tH r x h;exact .cons h1 h2
theorem aEn:∀ (l m:List Str),l.Perm m->l.Pairwise leS->m.Pairwise leS->l=m
 | [],m,p,_,_=>(List.Perm.nil_eq p)
 | a::r,[],p,_,_=>by have:=p.length_eq; simp at this
 | a::r,b::t,p,h,h'=>by
  have e:a=b:=by
   by_cases e:a=b
   ·exact e
   ·have h1:a∈t:=by
     rcases xAo.mp (p.mem_iff.mp (xBk ..)) with z | z
     ·exact xBg z e
     ·exact z
    have h2:b∈r:=by
     rcases xAo.mp (p.mem_iff.mpr (xBk ..)) with z | z
     ·exact xBg z.symm e
     ·exact z
    have g1:leS a b:=xIu h h2;have g2:leS b a:=xIu h' h1;have g:=aEv _ _ g2 g1;obtain⟨⟨x⟩⟩:=a;obtain⟨⟨y⟩⟩:=b;have g':x=y:=g;rw[g']
  subst e;rw[aEn r t p.cons_inv (xKa h) (xKa h')]
theorem sX {l m s:List Str}(p:l.Perm s)(q:m.Perm s)(h:xBr l=true)(h':xBr m=true):l=m:=
 aEn l m (p.trans q.symm) (qB h) (qB h')
def aEt (r s k:Nat):Str:=jW.getD ((r+s*k)%12) ""
theorem aOu (c:Int)(m:Nat):((c+(m:Int))%12).toNat=((c%12).toNat+m)%12:=by
 have h:=cK c (m:=12) (by decide);have e:c%12=((c%12).toNat:Int):=(Int.toNat_of_nonneg h.1).symm;generalize (c%12).toNat=r at e;rw[<- Int.emod_add_emod,e,<- Int.natCast_add];exact congrArg Int.toNat (Int.natCast_emod (r+m) 12).symm
theorem aLf (c:Int)(k:Nat):qM c k=aEt (c%12).toNat (hG c).toNat k:=by
 unfold qM aEt;congr 1;rcases jU c with e | e | e | e
 ·rw[e];exact aOu c (1*k)
 ·rw[e];exact aOu c (5*k)
 ·rw[e];exact aOu c (7*k)
 ·rw[e];exact aOu c (11*k)
theorem aXe {α:Type}{p:List α->Prop}(h:∀ a,p [a]):∀ us:List α,us.length=1->p us
 | [a],_=>h a
theorem aUi {α:Type}{p:List α->Prop}(h:∀ a b,p [a,b]):∀ us:List α,us.length=2->p us
 | [a,b],_=>h a b
theorem aUh {α:Type}{p:List α->Prop}(h:∀ a b c,p [a,b,c]):∀ us:List α,us.length=3->p us
 | [a,b,c],_=>h a b c
theorem aRt:∀ r,r<12->∀ s∈([1,5,7,11]:List Nat),((List.range 12).map (aEt r s)).Nodup:=by decide +kernel
theorem aBq:∀ z∈jW,aZ z=true:=by decide +kernel
theorem aCs (c:Int)(k:Nat):qM c k∈jW:=by
 unfold qM;have h:=cK (c+hG c*k) (m:=12) (by decide);have hl:((c+hG c*k)%12).toNat<jW.length:=by show _<12; omega
 rw[xCk,xAh hl];exact xCt hl
theorem aAa {c:Int}{n:Nat}{z:Str}(h:z∈eP c n):z∈jW:=by
 obtain⟨k,_,rfl⟩:=xBc.mp h;exact aCs c k
theorem uV (c:Int){n:Nat}(hn:n<=12):(eP c n).Nodup:=by
 have h:=cK c (m:=12) (by decide);have hs:(hG c).toNat∈([1,5,7,11]:List Nat):=by rcases jU c with e | e | e | e <;> rw[e] <;> decide
 have hN:=aRt (c%12).toNat (by omega) _ hs
 have e:eP c n=((List.range 12).map (aEt (c%12).toNat (hG c).toNat)).take n:=by
  unfold eP;rw[<- List.map_take,List.take_range,Nat.min_eq_left hn];exact xHq λk _=>aLf c k
 rw[e];exact hN.sublist (List.take_sublist n _)
theorem yV:∀ (pre seen suf:List Str),(∀ z∈pre,aZ z=true)->(seen++pre).Nodup->uS seen (pre++suf)=uS (seen++pre) suf
 | [],seen,suf,_,_=>by simp
 | z::r,seen,suf,h,hn=>by
  show (if aZ z=true then (if z∈seen then some Why.twice else uS (seen++[z]) (r++suf)) else some .noName)=_
  have hz:z∉seen:=λm=>by
   have:=(xIa.mp hn).2.2 z m z (xBk ..)
   exact this rfl
  rw[xBe (h z (xBk ..)),xAy hz,yV r (seen++[z]) suf (λy hy=>h y (xBi _ hy)) (by simpa using hn)]
  simp
theorem aCa {ss:List Str}(h:ss.length<=12)(hn:∀ z∈ss,aZ z=true)(hd:ss.Nodup):iY ss=none:=by
 unfold iY;rw[xAy (by omega)]
 have:=yV ss [] [] hn (by simpa using hd)
 rw[xBm] at this;rw[this];rfl
theorem aDh {c:Int}{ss:List Str}{z:Str}(h:z∈qV c ss):z∈ss:=by
 unfold qV at h;obtain⟨k,_,e⟩:=xBz.mp h;split at e
 ·exact xAu e
 ·cases e
theorem aDi (c:Int)(ss:List Str):(qV c ss).length<=ss.length:=by
 unfold qV;exact xAr (xCx ..) (by rw[xBv]; exact xAi _)
theorem aAt {ss fs:List Str}(h:ss.length<=12)(hn:∀ z∈ss,aZ z=true)(hd:ss.Nodup)(hf:∀ z∈fs,z∈ss):lX ss fs=none:=by
 unfold lX;rw[aCa h hn hd];exact xBe (xBn.mpr λz hz=>by rw[hn z (hf z hz),xAv (hf z hz)]; rfl)
end
end K23
namespace K23
open PySem L2 Ky PySem.W
seal L2.PE L2.PS L2.PSs L2.PA L2.PT L2.PW L2.PG L2.PI L2.PTs L2.PO L2.PPs L2.OpR L2.IxR L2.CallR L2.MtM L2.MtR
unseal L2.MtM L2.MtR
theorem aFw {n:Nat}(h:n<=4000):n<sizeLine:=xBt h (by decide)
section
variable {P:Program}{w:World}{K:xAd}{mg:xSO}{base:Heap}
theorem aJl:aQ ["begin","ends","doors","rooms","room","deed","far"] ["begin","ends","doors"] (aB aBt):=xfs
theorem aKr {f:Addr}{fd:FuncData}(F:Fun K "named_rooms" "named_rooms" aBt f fd):aY P w K mg base CX0 1 f fd ["begin","ends","doors"] aEa:=by
 refine F.ok aJl (λvs H Q E h=>?_) (λcdv A outer s H vs Q E hr h=>?_)
 ·obtain⟨b,e,d,es,ds,rfl,_⟩:=h;rfl
 ·obtain⟨b,e,d,es,ds,rfl,hE,hD,hle,hld,q⟩:=h
  refine⟨_,aK (bJ (i:=3) aJl.nd rfl (xAx rfl) (cM (pac (pv 0) aH)))
   (aK (cW (kU xBq xGs xGr qN (pv 3) (pac (pv 1) aH)))
   (aK (dI PassesOwn.never rfl (cS (pv 2)) (eC rfl (aU (aP (i:=4) aJl.nd rfl (xAx rfl)) (aU (aP (i:=5) aJl.nd rfl (xAx rfl)) (aU (aP (i:=6) aJl.nd rfl (xAx rfl)) dG))))
    (aK (cW (kU xBq xCo xCn eX (pv 3) (pac (pv 4) aH)))
    (aL (cW (kU xBq xCo xCn eX (pv 3) (pac (pv 6) aH))))))
   (aL (bO (pv 3))))),?_⟩
  obtain⟨ts,hd,htl,htt⟩:=hD.ex;refine⟨_,rfl,by show 1<=sizeLine; decide,λp hp=>⟨_,rfl,.inl ⟨rfl,_,SqL.of aD⟩,_,rfl,p,e,_,_,rfl,rfl,aD,smu hp _ _ hE,jI (by rw[xAa]; show 1+_<=_; omega),?_⟩⟩;have s0:aO H _:=smu (o:=.lst [.str b]) hp;have s1:∀ ys,aO H (upd (upd H p (.lst [.str b])) p (.lst ys)):=λys c o h=>by rw[aG (aF h hp)]; exact s0 c o h
  refine⟨_,rfl,d,rfl,⟨_,SqL.of (s1 _ _ _ hd)⟩,?_⟩;refine dH (xs:=ts.map V.ref) (λi Z H'=>∃ x4 x5 x6,Z=[some (.str b),some (.ref e),some (.ref d),some (.ref p),x4,x5,x6]/\H' p=some (.lst ((b::es++gB (ds.take i)).map V.str))/\aO H H') ?_ ?_ ?_ ?_
  ·refine⟨none,none,none,rfl,?_,s1 _⟩;rw[aD];show some (HO.lst ([V.str b]++es.map V.str))=some (HO.lst ((b::es++[]).map V.str));rw[xBm];rfl
  ·rintro i Z H' _ ⟨x4,x5,x6,rfl,h1,h2⟩;exact SqL.of (h2 _ _ hd)
  ·rintro i x Z H' hx ⟨x4,x5,x6,rfl,h1,h2⟩;rw[xAg] at hx;cases ht:ts[i]? with
   | none=>rw[ht] at hx; cases hx
   | some t=>
    rw[ht] at hx;cases hx;have hi:i<ds.length:=by rw[<- htl]; exact (xAc.mp ht).1
    have hz:ds[i]?=some ds[i]:=xAh hi;generalize ds[i]=z at hz;have e1:=uE hz;have hl:(gB (ds.take i)).length<=2000:=by rw[nV,xAt]; omega
    refine⟨t,_,rfl,SqT.of (h2 _ _ (htt i t z ht hz)),rfl,_,_,rfl,_,_,rfl,_,_,rfl,rfl,?_⟩;refine⟨_,rfl,.inl ⟨rfl,_,SqL.of h1⟩,_,rfl,p,_,_,rfl,rfl,h1,?_,?_⟩
    ·rw[xAa,xAj,xBd];exact xBt (m:=3001) (by omega) (by decide)
    refine⟨_,rfl,.inl ⟨rfl,_,SqL.of aD⟩,_,rfl,p,_,_,rfl,rfl,aD,?_,?_⟩
    ·rw[xAj,xAa,xAj,xBd];exact xBt (m:=3002) (by show _+1<=_; omega) (by decide)
    refine⟨_,_,_,rfl,?_,λc o h=>?_⟩
    ·rw[aD,e1]
     simp
    ·rw[aG (aF h hp),aG (aF h hp)];exact h2 c o h
  ·rintro Z H' ⟨x4,x5,x6,rfl,h1,h2⟩;rw[xAa,htl,xBa] at h1;exact⟨_,rfl,q p H' h2 hp h1⟩
theorem aTk:aQ ["rooms","room"] ["rooms"] (aB qC):=xfs
theorem zQ {f fN:Addr}{fd fdN:FuncData}{cl:Why->Addr}(F:Fun K "refuse_rooms" "refuse_rooms" qC f fd)(T:Txt K mg)(Ex:Exc K mg cl)
  (FN:Fun K "is_name" "is_name" oP fN fdN)(bN:aW K fdN ["thing"] [])(mN:mg "is_name" = some (.ref fN)) :
  aY P w K mg base (CXE P w) 2 f fd ["rooms"] (sR K cl):=by
 have GN:aY P w K mg base CX0 1 fN fdN ["thing"] (sS K):=rZ FN T;refine okE F aTk (λvs H Q E h=>?_) (λcdv A outer s H vs Q E hr h D=>?_)
 ·obtain⟨a,ss,rfl,_⟩:=h;rfl
 ·obtain⟨a,ss,rfl,hS,hsh,q⟩:=h
  refine⟨_,aL (dI PassesOwn.leaving rfl (cS (pv 0)) (aP (i:=1) aTk.nd rfl (xAx rfl))
    (aL (dR (kG (kE (bV GN hr rfl mN FN.kp bN .nil cA (pac (pv 1) aH)))) (aL (iH D rfl (by rfl) Ex.nn (Ex.x .noName) (pac aS aH))) cG))),?_⟩
  refine⟨_,rfl,a,rfl,⟨_,hS⟩,?_⟩;refine dH (xs:=ss.map V.str) (λi Z H'=>∃ nv,Z=[some (.ref a),nv]/\aO H H'/\(ss.take i).all aZ=true) ?_ ?_ ?_ ?_
  ·exact⟨none,rfl,aO.refl H,rfl⟩
  ·rintro i Z H' _ ⟨nv,rfl,h1,h2⟩;exact h1.seq hS
  ·rintro i x Z H' hx ⟨nv,rfl,h1,h2⟩;rw[xAg] at hx;cases hz:ss[i]? with
   | none=>rw[hz] at hx; cases hx
   | some z=>
    rw[hz] at hx;cases hx;obtain⟨hi,hzi⟩:=xAc.mp hz;have hzl:z.length<=1000:=hsh z (xAu hz);refine⟨_,rfl,.str z,rfl,.inl ⟨z,rfl,xDw (aR hzl),λH2 sm2=>⟨_,rfl,?_⟩⟩⟩
    by_cases hn:aZ z=true
    ·rw[hn];refine gP ⟨some (.str z),rfl,h1.trans sm2,?_⟩;rw[xBl,hz,xIo,h2];show (true&&(aZ z&&true))=true;rw[hn];rfl
    ·rw[xCs.mpr hn];refine jR ⟨by show 1<=sizeLine; decide,?_⟩
     have:=q H2 (h1.trans sm2)
     rw[vA h2,xDz hi,hzi] at this;unfold iT at this;rw[xAy (by rw[xGy,xCs.mpr hn]; exact xAs)] at this;exact this
  ·rintro Z H' ⟨nv,rfl,h1,h2⟩;rw[xAa,xBa] at h2
   have:=q H' h1
   unfold iT at this;rw[xBe h2] at this;exact this
theorem aGa:aQ ["rooms","doors","leads","room","deed","far"] ["rooms","doors"] (aB aBv):=xfs
theorem aKx {f:Addr}{fd:FuncData}(F:Fun K "leads_of" "leads_of" aBv f fd):aY P w K mg base CX0 1 f fd ["rooms","doors"] (aEc K):=by
 refine F.ok aGa (λvs H Q E h=>?_) (λcdv A outer s H vs Q E hr h=>?_)
 ·obtain⟨a,d,rs,ds,rfl,_⟩:=h;rfl
 ·obtain⟨a,d,rs,ds,rfl,hR,hD,hlr,hld,hin,hap,q⟩:=h;have hu:=iI hr
  refine⟨_,aK (bJ (i:=2) aGa.nd rfl (xAx rfl) lN)
   (aK (dI PassesOwn.never rfl (cS (pv 0)) (aP (i:=3) aGa.nd rfl (xAx rfl)) (aL (iL hu (pv 2) (pv 3) lN rfl)))
   (aK (dI PassesOwn.never rfl (cS (pv 1)) (eC rfl (aU (aP (i:=3) aGa.nd rfl (xAx rfl)) (aU (aP (i:=4) aGa.nd rfl (xAx rfl)) (aU (aP (i:=5) aGa.nd rfl (xAx rfl)) dG))))
    (aK (dR (qF (tO hu (pv 4) (eB hu (pv 2) (pv 3) (λ_ _=>rfl)))) (aL aEl) cG)
    (aL (iL hu (eB hu (pv 2) (pv 3) (λ_ _=>rfl)) (pv 4) (pv 5) rfl))))
   (aL (bO (pv 2))))),?_⟩
  obtain⟨ts,hd,htl,htt⟩:=hD.ex;intro l hl;have s0:aO H (upd H l (.dK [])):=smu hl;refine⟨_,rfl,a,rfl,⟨_,s0.seq hR⟩,?_⟩;refine dH (xs:=rs.map V.str) (λi Z H'=>∃ x3 kvs g,Z=[some (.ref a),some (.ref d),some (.ref l),x3,none,none]/\eQ H' l (rs.take i) [] kvs g/\(∀ z∈rs.take i,H (g z)=none)/\kvs.length<=i/\aO H H') ?_ ?_ ?_ ?_
  ·exact⟨none,[],λ_=>0,rfl,⟨aD,rfl,λz hz=>(nomatch hz),λz hz=>(nomatch hz),λz hz=>(nomatch hz),λz hz=>(nomatch hz)⟩,λz hz=>(nomatch hz),xAi _,s0⟩
  ·rintro i Z H' _ ⟨x3,kvs,g,rfl,L,hg,hk,sm⟩;exact sm.seq hR
  ·rintro i x Z H' hx ⟨x3,kvs,g,rfl,L,hg,hk,sm⟩;rw[xAg] at hx;cases hz:rs[i]? with
   | none=>rw[hz] at hx; cases hx
   | some z=>
    rw[hz] at hx;cases hx;have hi:i<rs.length:=(xAc.mp hz).1;have et:rs.take (i+1)=rs.take i++[z]:=by rw[xBl,hz]; rfl
    intro c hc;have cl:c≠l:=λe=>by rw[e,L.dk] at hc; cases hc
    have hcH:H c=none:=by
     cases e:H c with
     | none=>rfl
     | some o=>rw[sm _ _ e] at hc; cases hc
    refine⟨_,rfl,_,rfl,l,_,rfl,oI.k (k:=Sum.inr z) (by rw[aG (Ne.symm cl)]; exact L.dk) (aFw (by omega)),?_⟩;refine⟨_,_,_,rfl,by rw[et]; exact L.more hc z,λy hy=>?_,?_,λb o e=>?_⟩
    ·rw[et] at hy
     by_cases e:y=z
     ·show H (if y=z then c else g y)=none
      rw[xBe e]; exact hcH
     ·show H (if y=z then c else g y)=none
      rw[xAy e];exact hg y ((xCp.mp hy).resolve_right λw=>e (xBb.mp w))
    ·exact xAr (eJ _ _ _) (xIg hk)
    ·rw[aG (aF e hl),aG (aF e hcH)];exact sm b o e
  ·rintro Z H1 ⟨x3,kvs,g,rfl,L,hg,hk,sm⟩;rw[xAa,xBa] at L hg;refine⟨_,rfl,d,rfl,⟨_,SqL.of (sm _ _ hd)⟩,?_⟩;refine dH (xs:=ts.map V.ref) (λi Z H'=>∃ x3 x4 x5,Z=[some (.ref a),some (.ref d),some (.ref l),x3,x4,x5]/\eQ H' l rs (ds.take i) kvs g/\aO H H') ?_ ?_ ?_ ?_
   ·exact⟨_,_,_,rfl,L,sm⟩
   ·rintro i Z H' _ ⟨x3,x4,x5,rfl,h1,h2⟩;exact SqL.of (h2 _ _ hd)
   ·rintro i x Z H' hx ⟨x3,x4,x5,rfl,L',sm'⟩;rw[xAg] at hx;cases ht:ts[i]? with
    | none=>rw[ht] at hx; cases hx
    | some t=>
     rw[ht] at hx;cases hx;have hi:i<ds.length:=by rw[<- htl]; exact (xAc.mp ht).1
     have hz:ds[i]?=some ds[i]:=xAh hi;generalize ds[i]=z at hz;have zin:=hin z (xAu hz)
     have gv:dQ H' l (.str z.1) (some (.ref (g z.1))):=by
      have:=dQ.k (k:=Sum.inr z.1) L'.dk
      rw[L'.val _ zin] at this;exact this
     have gi:=dQ.k (k:=Sum.inr z.2.1) (L'.dd _ zin);rw[aAk (hap.at hz)] at gi;refine⟨t,_,rfl,SqT.of (sm' _ _ (htt i t z ht hz)),rfl,_,_,rfl,_,_,rfl,_,_,rfl,rfl,?_⟩;refine⟨_,rfl,_,rfl,_,rfl,l,_,rfl,gv,g z.1,none,rfl,gi,_,rfl,gP ?_⟩;refine⟨_,rfl,_,rfl,_,rfl,l,_,rfl,gv,_,rfl,g z.1,_,rfl,oI.k (k:=Sum.inr z.2.1) (L'.dd _ zin) (aR (xAr (aPc _ _) (by rw[xAt]; omega))),?_⟩;refine⟨_,_,_,rfl,L'.door hz zin hap,λb o e=>?_⟩;rw[aG (aF e (hg _ zin))];exact sm' b o e
   ·rintro Z H' ⟨x3,x4,x5,rfl,h1,h2⟩;rw[xAa,htl,xBa] at h1;exact⟨_,rfl,q l kvs g H' h2 hl hg h1⟩
abbrev NMI:List Str:=["self","deeds","begin","ends","doors","more","rooms","known"]
theorem aRc:aQ NMI ["self","deeds","begin","ends","doors","more"] (aB nN):=xfs
theorem aKu {f fN fR fL fK fQ C CM:Addr}{fd fdN fdR fdL fdK fdQ:FuncData}{cl:Why->Addr}(F:aMx K "__init__" "Machine.__init__" nN f fd)(T:Txt K mg)(DC:aDr K C)(MC:lA K CM)
  (mMR:∃ t,mg "MOST_ROOMS"=some (.int 60 t))
  (GN:aY P w K mg base CX0 1 fN fdN ["begin","ends","doors"] aEa)(kN:keepIn K (.ref fN)=true)(bN:aW K fdN ["begin","ends","doors"] [])(mN:mg "named_rooms" = some (.ref fN))
  (GR:aY P w K mg base (CXE P w) 2 fR fdR ["rooms"] (sR K cl))(kR:keepIn K (.ref fR)=true)(bR:aW K fdR ["rooms"] [])(mR:mg "refuse_rooms" = some (.ref fR))
  (GL:aY P w K mg base CX0 1 fL fdL ["rooms","doors"] (aEc K))(kL:keepIn K (.ref fL)=true)(bL:aW K fdL ["rooms","doors"] [])(mL:mg "leads_of" = some (.ref fL))
  (GK:aY P w K mg base CX0 1 fK fdK ["names"] (rX K))(kK:keepIn K (.ref fK)=true)(bK:aW K fdK ["names"] [])(mK:mg "marks_of" = some (.ref fK))
  (GQ:aY P w K mg base (CXE P w) 3 fQ fdQ ["self","row"] (jP K C cl))(bQ:aW K fdQ ["self","row"] [])(mQ:fV K C "require" fQ) :
  aY P w K mg base (CXE P w) 4 f fd ["self","deeds","begin","ends","doors","more"] (wU K C CM):=by
 obtain⟨tr,mMR⟩:=mMR;refine aTw F aRc (λvs H Q E h=>?_) (λcdv A outer s H vs Q E hr h D=>?_)
 ·obtain⟨x,dd,e,d,dx,b,y,es,ms,ds,wk,rfl,_⟩:=h;rfl
 ·obtain⟨x,dd,e,d,dx,b,y,es,ms,ds,wk,rfl,hx,hW,hE,hD,hM,⟨hle,hld,hlm⟩,hnm,hgd,hsh,hap,h60,q⟩:=h;have hr1:cL 1 _:=hr.mono (by decide);have hr2:cL 2 _:=hr.mono (by decide)
  refine⟨_,aK (bJ (i:=6) aRc.nd rfl (xAx rfl) (bV GN hr1 rfl mN kN bN .nil cA (pac (pv 2) (pac (pv 3) (pac (pv 4) aH)))))
   (aK (cW (bV GR hr2 rfl mR kR bR .nil (D.passes λ_ _ _ z=>z) (pac (pv 6) aH)))
   (aK (fZ (i:=7) (N':=["room","deed","far"]) (nown:=3) (js:=[]) rfl aRc.nd rfl rfl rfl
     xbs (cF (aB nN) NMI rfl rfl (by decide +kernel))
     ⟨λ_ _ _ _=>show PG _ _ (uX K 3 (gC (eK 0) (gC (eK 1) (gC (eK 2) uY)))) from eC rfl (aU (aP (i:=0) (show List.Nodup (["room","deed","far"]:List Str) by decide +kernel) rfl (xAx rfl) (.inr rfl)) (aU (aP (i:=1) (show List.Nodup (["room","deed","far"]:List Str) by decide +kernel) rfl (xAx rfl) (.inr rfl)) (aU (aP (i:=2) (show List.Nodup (["room","deed","far"]:List Str) by decide +kernel) rfl (xAx rfl) (.inr rfl)) dG))),
      λ_ _ _ _=>dU,λ_ _ _ _=>pv 1⟩
     (cS (pv 4)))
   (dZ (λZ H'=>∃ p c,Z=[some (.ref x),some (.ref dd),some (.str b),some (.ref e),some (.ref d),some y,some (.ref p),some (.ref c)]/\H' p=some (.lst ((cH b es ds).map V.str))/\H' c=some (.lst ((dJ ds ms).map V.str))/\aO H H')
    (dR (cB xI (pv 5) jJ (cO _)) (aL (cW (kU xBq xGs xGr qN (pv 7) (pac (pv 5) aH)))) cG)
   (aK (cW (eA (pv 1) DC.cl mQ GQ hr bQ .nil (D.passes λ_ _ _ z=>z) (pac (pv 7) aH)))
   (aK (kH (pv 0) (bV GL hr1 rfl mL kL bL .nil cA (pac (pv 6) (pac (pv 4) aH))) rfl)
   (aK (dR (cB rE (cC aHw (by rfl) T.len Bo.len (pac (eN (pv 0) rfl) aH)) (jC (v:=.int 60) (by rfl) mMR ⟨_,rfl⟩) (cO _)) (aL aEl) cG)
   (aK (kH (pv 0) (pv 1) rfl)
   (aK (kH (pv 0) (pv 2) rfl)
   (aK (kH (pv 0) (bV GK hr1 rfl mK kK bK .nil cA (pac (pv 3) aH)) rfl)
   (aL (kH (pv 0) (bV GK hr1 rfl mK kK bK .nil cA (pac (pv 7) aH)) rfl))))))))))),?_⟩
  have hxe:∀ {a:Addr}{o:HO},H a=some o->(∀ fs,o≠.ins CM dx fs)->a≠x:=λ{a o} h n e=>by rw[e,hx] at h; exact n _ (xBp h).symm
  refine⟨_,rfl,_,rfl,_,rfl,b,e,d,es,ds,rfl,hE,hD,by omega,by omega,λp H1 s1 hp hp1=>?_⟩;refine⟨_,rfl,p,_,rfl,SqL.of hp1,sY hnm,λH2 s2=>?_⟩;unfold iT;rw[xBe hnm];have s12:=s1.trans s2;obtain⟨ts,hd,htl,htt⟩:=(hD.same s12).ex;have hp2:=s2 _ _ hp1;clear hp1;refine⟨_,rfl,d,rfl,⟨_,SqL.of hd⟩,λc hc=>?_⟩;refine gH (xs:=ts.map V.ref) (λi Z' H'=>∃ v0 v1 v2,Z'=[v0,v1,v2]/\H' c=some (.lst (((ds.take i).map (·.2.1)).map V.str))/\aO H2 H') ?_ ?_ ?_ ?_
  ·exact⟨none,none,none,rfl,aD,smu hc⟩
  ·rintro i Z' H' _ ⟨v0,v1,v2,rfl,h1,h2⟩;exact SqL.of (h2 _ _ hd)
  ·rintro i v Z' H' hv ⟨v0,v1,v2,rfl,h1,h2⟩;rw[xAg] at hv;cases ht:ts[i]? with
   | none=>rw[ht] at hv; cases hv
   | some t=>
    rw[ht] at hv;cases hv;have hi:i<ds.length:=by rw[<- htl]; exact (xAc.mp ht).1
    have hz:ds[i]?=some ds[i]:=xAh hi;generalize ds[i]=z at hz;refine⟨t,_,rfl,SqT.of (h2 _ _ (htt i t z ht hz)),rfl,_,_,rfl,_,_,rfl,_,_,rfl,rfl,?_⟩;refine⟨_,rfl,_,h1,aR (by rw[xAa,xAa,xAt]; omega),some (.str z.1),some (.str z.2.1),some (.str z.2.2),rfl,?_,λa o h=>?_⟩
    ·rw[aD,xBl,hz]
     simp
    ·rw[aG (aF h hc)];exact h2 a o h
  ·rintro Z' H3 ⟨v0,v1,v2,rfl,h1,h2⟩;rw[xAa,htl,xBa] at h1
   have hcH:H c=none:=by
    cases h:H c with
    | none=>rfl
    | some o=>rw[s12 _ _ h] at hc; cases hc
   refine⟨?_,?_⟩
   ·rcases hM with⟨rfl,rfl⟩ | ⟨m,rfl,hm⟩
    ·refine⟨_,rfl,rfl,_,rfl,gP ?_⟩;refine⟨p,c,rfl,h2 _ _ hp2,?_,s12.trans h2⟩;rw[h1];unfold dJ;rw[xBm]
    ·refine⟨_,rfl,rfl,_,rfl,jR ?_⟩;refine⟨_,rfl,.inl ⟨rfl,_,SqL.of h1⟩,_,rfl,c,m,_,_,rfl,rfl,h1,h2 _ _ (s12 _ _ hm),jI (by rw[xAa,xAa,xAa]; omega),p,c,rfl,?_,?_,λa o h=>?_⟩
     ·rw[aG (aF hp2 hc)];exact h2 _ _ hp2
     ·rw[aD];unfold dJ;rw[xAn]
     ·rw[aG (aF h hcH)];exact h2 _ _ (s12 _ _ h)
   ·clear h1 h2 hp2 s12 s1 s2 hd htl htt hc hcH;rintro Z H4 ⟨p,c,rfl,hp4,hc4,s4⟩;obtain⟨wx,wf,ww,wo,hw0,hw1,hw2,hw3⟩:=hW;refine⟨_,rfl,dd,wx,wf,rfl,s4 _ _ hw0,hw1 "require" (by decide),_,rfl,dd,c,_,wk,rfl,SqL.of hc4,vG hsh,⟨wx,wf,ww,wo,s4 _ _ hw0,hw1,hw2,s4 _ _ hw3⟩,λH5 s5=>?_⟩;rw[xBe hgd];have s45:=s4.trans s5;have hx5:=s45 _ _ hx;refine⟨_,rfl,_,rfl,p,d,_,ds,rfl,SqL.of (s5 _ _ hp4),hD.same s45,by rw[zB]; omega,by omega,aMg,hap,λl kvs g H6 s6 hl hg L=>?_⟩;have hx6:=s6 _ _ hx5;have lx:l≠x:=λz=>by rw[z,hx5] at hl; cases hl
    have gx:∀ z∈cH b es ds,g z≠x:=λz hz z'=>by have:=hg z hz; rw[z',hx5] at this; cases this
    refine⟨_,rfl,x,CM,dx,[],rfl,hx6,MC.cl,MC.nl,by decide,?_⟩
    have hkl:kvs.length<=60:=by
     have:=congrArg List.length L.keys
     rw[xAa,xAa] at this;rw[this]; exact h60
    have L7:eQ (upd H6 x (.ins CM dx (gY "leads" (.ref l) []))) l (cH b es ds) ds kvs g:=⟨by rw[aG lx]; exact L.dk,L.keys,L.val,λz hz=>by rw[aG (gx z hz)]; exact L.dd z hz,L.inj,L.ne⟩;have hx7:(upd H6 x (.ins CM dx (gY "leads" (.ref l) []))) x=some (.ins CM dx [("leads",.ref l)]):=aD;have s7:SameBut x H (upd H6 x (.ins CM dx (gY "leads" (.ref l) []))):=λa o n h=>by rw[aG n]; exact s6 _ _ (s45 _ _ h)
    have hc7:(upd H6 x (.ins CM dx (gY "leads" (.ref l) []))) c=some (.lst ((dJ ds ms).map V.str)):=by
     rw[aG λz=>by rw[z,s4 _ _ hx] at hc4; cases hc4];exact s6 _ _ (s5 _ _ hc4)
    generalize upd H6 x (.ins CM dx (gY "leads" (.ref l) []))=H7 at L7 hx7 s7 hc7 ⊢;have he7:=s7 _ _ (hxe hE λ_ z=>by cases z) hE;refine⟨_,rfl,x,CM,dx,_,.ref l,rfl,hx7,MC.cl,MC.nl,by rfl,l,kvs,rfl,L7.dk,_,_,rfl,rfl,_,rfl,fU (λz=>xBg (xAp z) (by omega)) λ_=>?_⟩;refine⟨_,rfl,_,rfl,x,CM,dx,_,rfl,hx7,MC.cl,MC.nd,by show 1<1000; decide,?_⟩;refine⟨_,rfl,_,rfl,x,CM,dx,_,rfl,aD,MC.cl,MC.nf,by show 2<1000; decide,?_⟩;have hL8:∀ (f2 f3:List (Str×V)),eQ (upd (upd H7 x (.ins CM dx f2)) x (.ins CM dx f3)) l (cH b es ds) ds kvs g:=λf2 f3=>⟨by rw[aG lx,aG lx]; exact L7.dk,L7.keys,L7.val,λz hz=>by rw[aG (gx z hz),aG (gx z hz)]; exact L7.dd z hz,L7.inj,L7.ne⟩;have h8:∀ (f2 f3:List (Str×V)),SameBut x H7 (upd (upd H7 x (.ins CM dx f2)) x (.ins CM dx f3)):=λf2 f3 a o n h=>by rw[aG n,aG n]; exact h
    have cx:c≠x:=λz=>by rw[z,hx7] at hc7; cases hc7
    have ex:e≠x:=hxe hE λ_ z=>by cases z
    refine⟨_,rfl,e,es,rfl,SqL.of (h8 _ _ _ _ ex he7),by omega,λde H9 s9 hde hde9=>?_⟩;have hx9:=s9 x _ aD;have dex:de≠x:=λz=>by rw[z,aD] at hde; cases hde
    refine⟨_,rfl,x,CM,dx,_,rfl,hx9,MC.cl,MC.ne,by show 3<1000; decide,?_⟩;have s79:∀ f4:List (Str×V),SameBut x H7 (upd H9 x (.ins CM dx f4)):=λf4 a o n h=>by rw[aG n]; exact s9 _ _ (h8 _ _ _ _ n h)
    refine⟨_,rfl,c,_,rfl,SqL.of (s79 _ _ _ cx hc7),by unfold dJ; rw[xAj,xAa]; omega,λdk H10 s10 hdk hdk10=>?_⟩;have hx10:=s10 x _ aD;have dkx:dk≠x:=λz=>by rw[z,aD] at hdk; cases hdk
    refine⟨_,rfl,x,CM,dx,_,rfl,hx10,MC.cl,MC.nk,by show 4<1000; decide,?_⟩;have sF:∀ f5:List (Str×V),SameBut x H7 (upd H10 x (.ins CM dx f5)):=λf5 a o n h=>by rw[aG n]; exact s10 _ _ (s79 _ _ _ n h)
    refine q l de dk kvs g _ (λa o n h=>sF _ a o n (s7 a o n h)) ⟨by rw[aD]; rfl,⟨sF _ _ _ lx L7.dk,L7.keys,L7.val,λz hz=>sF _ _ _ (gx z hz) (L7.dd z hz),L7.inj,L7.ne⟩,?_,?_⟩
    ·rw[aG dex];exact s10 _ _ (by rw[aG dex]; exact hde9)
    ·rw[aG dkx];exact hdk10
abbrev tabs:List (List Str):=[["a","b","c","d","e"],["r0","r1","r2","r3","r4"],["go","stop","x","room1","zz"],["a","ab","b","ba","aba"],["a","ab","b","ba","aba"]]
def gD (c:Int)(k:Nat):Str:=(tabs.getD (c%5).toNat []).getD ((c/5+k)%5).toNat ""
def bX (c:Int)(n:Nat):List Str:=(List.range n).map (gD c)
theorem eI (c:Int)(n:Nat):(bX c n).length=n:=by unfold bX; rw[xAa,xBv]
theorem aPw:∀ i,i<5->(tabs.getD i []).length=5/\(tabs.getD i []).all aZ=true/\(tabs.getD i []).Nodup:=by decide +kernel
inductive vM (vs:List V)(H:Hp)(Q:VK)(E:XK):Prop
 | mk (c:Int)(n:Nat)(h0_:vs=[.int c,.int n])(h1_:n<=1000)(h2_:∀ (l:Addr) H',aO H H'->H l=none->H' l=some (.lst ((bX c n).map V.str))->Q (.ref l) H')
abbrev NRB:List Str:=["_law_cell","_law_many","_law_some"]
theorem aRa:aQ NRB ["_law_cell","_law_many"] (aB oN):=xfs
theorem aCf {f:Addr}{fd:FuncData}(F:Fun K "_law_rooms_by" "_law_rooms_by" oN f fd)(T:Txt K mg):aY P w K mg base CX0 1 f fd ["_law_cell","_law_many"] vM:=by
 refine F.ok aRa (λvs H Q E h=>?_) (λcdv A outer s H vs Q E hr h=>?_)
 ·obtain⟨c,n,rfl,_⟩:=h;rfl
 ·obtain⟨c,n,rfl,hn,q⟩:=h
  refine⟨_,aK (bJ (i:=2) aRa.nd rfl (xHg rfl) (cM (pac (cM (pac aS (pac aS (pac aS (pac aS (pac aS aH)))))) (pac (cM (pac aS (pac aS (pac aS (pac aS (pac aS aH)))))) aH))))
   (aK (bJ (i:=2) aRa.nd rfl (xHg rfl) (aX eZ (aX eZ (pv 2) (cM (pac (cM (pac aS (pac aS (pac aS (pac aS (pac aS aH)))))) aH)))
     (aX aKk (cM (pac (cM (pac aS (pac aS (pac aS (pac aS (pac aS aH)))))) aH)) aN)))
   (aL (bO (dW (N':=["_law_k","_law_some","_law_cell"]) (nown:=1) (js:=[2,0]) rfl
     xbs (cF (aB oN) NRB rfl rfl (by decide +kernel))
     ⟨λ_ _ _ _=>aP (i:=0) (show List.Nodup (["_law_k","_law_some","_law_cell"]:List Str) by decide +kernel) rfl (xAx rfl) (.inr rfl),λ_ _ _ _=>dU,
      λ_ _ _ _=>eE (show IxR _ (zG K) from cY) (eE (show IxR _ (zG K) from cY) (pv 1) (aX dD (pv 2) aN) (λ_ _=>rfl)) (aX dD (aX dY (aX fJ (pv 2) aN) (pv 0)) aN) (λ_ _=>rfl)⟩
     (gN rfl T.range (pac (pv 1) aH)))))),?_⟩
  refine⟨by show 5<=sizeLine; decide,λp1 h1=>⟨by show 5<=sizeLine; decide,λp2 h2=>⟨by show 2<=sizeLine; decide,λp3 h3=>⟨_,rfl,by show 5<=sizeLine; decide,λp4 h4=>⟨by show 1<=sizeLine; decide,λp5 h5=>⟨p3,p5,_,_,rfl,rfl,smu h5 _ _ (smu h4 _ _ aD),aD,by show 3<=sizeLine; decide,λp6 h6=>⟨by show 5<=sizeLine; decide,λp7 h7=>⟨by show 1<=sizeLine; decide,λp8 h8=>⟨p8,2,_,rfl,rfl,aD,by decide,by decide,by show 1*2<=sizeLine; decide,λp9 h9=>⟨p6,p9,_,_,rfl,rfl,smu h9 _ _ (smu h8 _ _ (smu h7 _ _ aD)),aD,by show 3+2<=sizeLine; decide,λp10 h10=>?_⟩⟩⟩⟩⟩⟩⟩⟩⟩⟩;generalize hH2:upd (upd (upd (upd (upd (upd (upd (upd (upd (upd H p1 _) p2 _) p3 _) p4 _) p5 _) p6 _) p7 _) p8 _) p9 _) p10 _=H2;have s2:aO H H2:=by rw[<- hH2]; exact (smu h1).trans ((smu h2).trans ((smu h3).trans ((smu h4).trans ((smu h5).trans ((smu h6).trans ((smu h7).trans ((smu h8).trans ((smu h9).trans (smu h10)))))))))
  have e10:H2 p10=some (.lst ([p1,p2,p4,p7,p7].map V.ref)):=by rw[<- hH2,aD]; rfl
  have ee:∀ i,i<5->H2 ([p1,p2,p4,p7,p7].getD i 0)=some (.lst ((tabs.getD i []).map V.str)):=by
   rw[<- hH2];intro i hi
   match i,hi with
   | 0,_=>exact smu h10 _ _ (smu h9 _ _ (smu h8 _ _ (smu h7 _ _ (smu h6 _ _ (smu h5 _ _ (smu h4 _ _ (smu h3 _ _ (smu h2 _ _ aD))))))))
   | 1,_=>exact smu h10 _ _ (smu h9 _ _ (smu h8 _ _ (smu h7 _ _ (smu h6 _ _ (smu h5 _ _ (smu h4 _ _ (smu h3 _ _ aD)))))))
   | 2,_=>exact smu h10 _ _ (smu h9 _ _ (smu h8 _ _ (smu h7 _ _ (smu h6 _ _ (smu h5 _ _ aD)))))
   | 3,_=>exact smu h10 _ _ (smu h9 _ _ (smu h8 _ _ aD))
   | 4,_=>exact smu h10 _ _ (smu h9 _ _ (smu h8 _ _ aD))
  clear hH2 h1 h2 h3 h4 h5 h6 h7 h8 h9 h10;refine⟨_,rfl,n,rfl,by omega,by omega,λD hD=>iP (n:=n) (λi Z' H'=>∃ v,Z'=[v,some (.ref p10),some (.int c)]/\H' D=some (.lst ((bX c i).map V.str))/\aO H2 H') ?_ ?_ ?_⟩
  ·exact⟨none,rfl,aD,smu hD⟩
  ·rintro i Z' H' hi ⟨v,rfl,hl',sm⟩;have g5:=cK c (m:=5) (by decide);have g5':=cK (c/5+(0+(i:Int))) (m:=5) (by decide);have ti:=aPw (c%5).toNat (by omega);have el:=ee (c%5).toNat (by omega);refine⟨_,rfl,_,rfl,_,_,rfl,rfl,(by show (0:Int)<5; decide),p10,_,_,V.ref ([p1,p2,p4,p7,p7].getD (c%5).toNat 0),rfl,rfl,SqL.of (sm _ _ e10),iU V.ref [p1,p2,p4,p7,p7] 0 g5.1 g5.2,?_⟩;refine⟨_,rfl,_,_,rfl,rfl,⟨by decide,by decide⟩,_,rfl,_,_,rfl,rfl,_,_,rfl,rfl,(by show (0:Int)<5; decide),_,_,_,V.str (gD c i),rfl,rfl,SqL.of (sm _ _ el),?_,_,hl',?_,_,rfl,?_,?_⟩
   ·have h:=iU V.str (tabs.getD (c%5).toNat []) "" g5'.1 (by rw[ti.1]; exact g5'.2);rw[h,xDy];rfl
   ·exact aR (by rw[xAa,eI]; omega)
   ·rw[aD];unfold bX;rw[xDh,xAn,xAn];rfl
   ·intro b o e;rw[aG (aF e hD)];exact sm b o e
  ·rintro Z' H' ⟨v,rfl,hl',sm⟩;exact q D H' (s2.trans sm) (s2.free hD) hl'
abbrev NMB:List Str:=["_law_cell","_law_names","_law_many","_law_rooms","_law_known","_law_doors","_law_i","_law_room","_law_k","_law_deed","_law_draw","_law_ends","_law_more_here"]
theorem lH:aQ NMB ["_law_cell","_law_names","_law_many"] (aB hJ):=xfs
theorem aHn (fs:List Str):(fs.map V.str).all pL=true:=by
 rw[xHj,xBn];intro z _;rfl
theorem xP (z:Str)(fs:List Str):inV (.str z) (fs.map V.str)=decide (z∈fs):=by
 have e:∀ y:Str,eqV (.str y) (.str z)=(y==z):=λ_=>rfl;unfold inV;rw[List.any_map,xEi,xEz,xDa];constructor
 ·rintro⟨y,hy,h⟩;have h':(y==z)=true:=h;rw[<- eq_of_beq h']; exact hy
 ·exact λh=>⟨z,h,(e z).trans (xEy z)⟩
def pK (c:Int)(k:Nat):Bool:=decide (RW.mixed c (300+(k:Int))%4>0)
def pE (c:Int)(k:Nat):Bool:=decide (RW.mixed c (400+(k:Int))%2=0)
def pM (c:Int)(k:Nat):Bool:=decide (RW.mixed c (500+(k:Int))%8=1)
def drw (c:Int)(i k:Nat):Int:=RW.mixed c (20*(i:Int)+(k:Int))
def dr (c:Int)(kn rs nm:List Str)(n i k:Nat):Option Dr:=match rs[i]?,nm[k]? with
 | some r,some d=>if (decide (d∈kn)&&decide (drw c i k%3>0))=true then some (r,d,rs.getD (drw c i k/3%n).toNat "") else none
 | _,_=>none
def xD (c:Int)(kn rs nm:List Str)(n i j:Nat):List Dr:=(List.range j).filterMap (dr c kn rs nm n i)
def oE (c:Int)(kn rs nm:List Str)(n i:Nat):List Dr:=(List.range i).flatMap λa=>xD c kn rs nm n a nm.length
def cX (c:Int)(nm:List Str):List Str:=tJ (pK c) nm nm.length
def dB (c:Int)(nm:List Str)(n:Nat):List Dr:=let d:=oE c (cX c nm) (bX c n) nm n n; if c/15%2=1 then d.reverse else d
def iB (c:Int)(n:Nat):List Str:=tJ (pE c) (bX c n) n
def jK (c:Int)(nm:List Str):List Str:=tJ (pM c) nm nm.length
theorem aGc {c:Int}{kn rs nm:List Str}{n i k:Nat}{r d:Str}(hr:rs[i]?=some r)(hd:nm[k]?=some d):xD c kn rs nm n i (k+1)=xD c kn rs nm n i k++(if (decide (d∈kn)&&decide (drw c i k%3>0))=true then [(r,d,rs.getD (drw c i k/3%n).toNat "")] else []):=by
 unfold xD;rw[xDh,xDi]
 have e:dr c kn rs nm n i k=if (decide (d∈kn)&&decide (drw c i k%3>0))=true then some (r,d,rs.getD (drw c i k/3%n).toNat "") else none:=by
  unfold dr;rw[hr,hd]
 by_cases q:(decide (d∈kn)&&decide (drw c i k%3>0))=true
 ·rw[xBe q] at e ⊢;rw[xIz e];rfl
 ·rw[xAy q] at e ⊢;rw[xJa e];rfl
theorem wN (c:Int)(kn rs nm:List Str)(n i:Nat):oE c kn rs nm n (i+1)=oE c kn rs nm n i++xD c kn rs nm n i nm.length:=by
 unfold oE;rw[xDh,List.flatMap_append]
 simp
theorem zA (c:Int)(kn rs nm:List Str)(n i j:Nat):(xD c kn rs nm n i j).length<=j:=by
 refine xAr (xCx ..) ?_;rw[xBv];exact xAi _
theorem uM (c:Int)(kn rs nm:List Str)(n:Nat):∀ i,(oE c kn rs nm n i).length<=nm.length*i
 | 0=>xAi _
 | i+1=>by
  rw[wN,xAj,Nat.mul_succ];exact Nat.add_le_add (uM c kn rs nm n i) (zA ..)
inductive lG (K:xAd)(vs:List V)(H:Hp)(Q:VK)(E:XK):Prop
 | mk (c:Int)(a:Addr)(n:Nat)(ss:List Str)(h0_:vs=[.int c,.ref a,.int n])(h1_:SqL K H a (ss.map V.str))(h2_:1<=n)(h3_:n<=5)(h4_:ss.length<=12)
  (h5_:∀ (t e d m:Addr) H',aO H H'->H e=none->H d=none->H m=none->H' t=some (.tup [.str (gD c 0),.ref e,.ref d,.ref m])->H' e=some (.lst ((iB c n).map V.str))->cN H' d (dB c ss n)->H' m=some (.lst ((jK c ss).map V.str))->Q (.ref t) H')
inductive J1 (H:Hp)(c:Int)(a:Addr)(n:Nat)(ss:List Str)(Z:St)(H':Hp):Prop
 | mk (l kn:Addr)(h0_:Z=[some (.int c),some (.ref a),some (.int n),some (.ref l),some (.ref kn),none,none,none,none,none,none,none,none])(h1_:H' l=some (.lst ((bX c n).map V.str)))(h2_:H' kn=some (.lst ((cX c ss).map V.str)))(h3_:aO H H')
inductive J2 (H:Hp)(c:Int)(a:Addr)(n:Nat)(ss:List Str)(i:Nat)(ds:List Dr)(x11 x12:Option V)(Z:St)(H':Hp):Prop
 | mk (l kn d:Addr)(x6 x7 x8 x9 x10:Option V)(h0_:Z=[some (.int c),some (.ref a),some (.int n),some (.ref l),some (.ref kn),some (.ref d),x6,x7,x8,x9,x10,x11,x12])(h1_:H' l=some (.lst ((bX c n).map V.str)))(h2_:H' kn=some (.lst ((cX c ss).map V.str)))(h3_:cN H' d ds)(h4_:H d=none)(h5_:l≠d)(h6_:kn≠d)(h7_:aO H H')(h8_:∀ p,(x11=some (.ref p)\/x12=some (.ref p))->p≠d/\H p=none)
abbrev nd3:List Str:=["_law_k","_law_name","_law_cell"]
abbrev nd4:List Str:=["_law_i","_law_room","_law_cell"]
theorem xK {f fM fR:Addr}{fd fdM fdR:FuncData}(F:Fun K "_law_machine_by" "_law_machine_by" hJ f fd)(T:Txt K mg)
  (GM:aY P w K mg base CX0 1 fM fdM ["_law_cell","_law_k"] oK)(kM:keepIn K (.ref fM)=true)(bM:aW K fdM ["_law_cell","_law_k"] [])(mM:mg "_law_mixed" = some (.ref fM))
  (GR:aY P w K mg base CX0 1 fR fdR ["_law_cell","_law_many"] vM)(kR:keepIn K (.ref fR)=true)(bR:aW K fdR ["_law_cell","_law_many"] [])(mR:mg "_law_rooms_by" = some (.ref fR)) :
  aY P w K mg base CX0 2 f fd ["_law_cell","_law_names","_law_many"] (lG K):=by
 refine F.ok lH (λvs H Q E h=>?_) (λcdv A outer s H vs Q E hr h=>?_)
 ·obtain⟨c,a,n,ss,rfl,_⟩:=h;rfl
 ·obtain⟨c,a,n,ss,rfl,hA,hn1,hn5,hs12,q⟩:=h
  refine⟨_,aK (bJ (i:=3) lH.nd rfl (xAx rfl) (bV GR hr rfl mR kR bR .nil cA (pac (pv 0) (pac (pv 2) aH))))
   (dZ (J1 H c a n ss) (fZ (i:=4) (N':=nd3) (nown:=2) (js:=[0]) rfl lH.nd rfl rfl rfl
     xbs (cF (aB hJ) NMB rfl rfl (by decide +kernel))
     ⟨λ_ _ _ _=>show PG _ _ (uX K 2 (gC (eK 0) (gC (eK 1) uY))) from eC rfl (aU (aP (i:=0) (show List.Nodup nd3 by decide +kernel) rfl (xAx rfl) (.inr rfl)) (aU (aP (i:=1) (show List.Nodup nd3 by decide +kernel) rfl (xAx rfl) (.inr rfl)) dG)),
      λ_ _ _ _=>jZ (cB rE (aX dD (bV GM hr rfl mM kM bM .nil cA (pac (pv 2) (pac (aX dY aN (pv 0)) aH))) aN) aN (cO _)),
      λ_ _ _ _=>pv 1⟩
     (iZ rfl T.enum (pac (pv 1) aH)))
   (aK (bJ (i:=5) lH.nd rfl (xAx rfl) (cM aH))
   (dZ (J2 H c a n ss n (oE c (cX c ss) (bX c n) ss n n) none none) (dI PassesOwn.never rfl (iZ rfl T.enum (pac (pv 3) aH)) (eC rfl (aU (aP (i:=6) lH.nd rfl (xAx rfl)) (aU (aP (i:=7) lH.nd rfl (xAx rfl)) dG)))
    (aL (dI PassesOwn.never rfl (iZ rfl T.enum (pac (pv 1) aH)) (eC rfl (aU (aP (i:=8) lH.nd rfl (xAx rfl)) (aU (aP (i:=9) lH.nd rfl (xAx rfl)) dG)))
     (aK (bJ (i:=10) lH.nd rfl (xAx rfl) (bV GM hr rfl mM kM bM .nil cA (pac (pv 0) (pac (aX dY (aX nX aN (pv 6)) (pv 8)) aH))))
     (aL (dR (aCd (cB (show OpR _ _ (rIn K false) from qJ) (pv 9) (pv 4) (by with_unfolding_all rfl)) (xG (cB rE (aX dD (pv 10) aN) aN (cO _)))).pt
      (aL (cW (kU xBq xCo xCn eX (pv 5) (pac (hU (pac (pv 7) (pac (pv 9) (pac (eE cY (pv 3) (aX dD (aX fJ (pv 10) aN) (pv 2)) (λ_ _=>rfl)) aH)))) aH)))) cG))))))
   (dZ (λZ H'=>∃ e,J2 H c a n ss n (oE c (cX c ss) (bX c n) ss n n) (some (.ref e)) none Z H'/\H' e=some (.lst ((iB c n).map V.str))) (fZ (i:=11) (N':=nd4) (nown:=2) (js:=[0]) rfl lH.nd rfl rfl rfl
     xbs (cF (aB hJ) NMB rfl rfl (by decide +kernel))
     ⟨λ_ _ _ _=>show PG _ _ (uX K 2 (gC (eK 0) (gC (eK 1) uY))) from eC rfl (aU (aP (i:=0) (show List.Nodup nd4 by decide +kernel) rfl (xAx rfl) (.inr rfl)) (aU (aP (i:=1) (show List.Nodup nd4 by decide +kernel) rfl (xAx rfl) (.inr rfl)) dG)),
      λ_ _ _ _=>jZ (cB pC (aX dD (bV GM hr rfl mM kM bM .nil cA (pac (pv 2) (pac (aX dY aN (pv 0)) aH))) aN) aN (cO _)),
      λ_ _ _ _=>pv 1⟩
     (iZ rfl T.enum (pac (pv 3) aH)))
   (dZ (λZ H'=>∃ e m,J2 H c a n ss n (oE c (cX c ss) (bX c n) ss n n) (some (.ref e)) (some (.ref m)) Z H'/\H' e=some (.lst ((iB c n).map V.str))/\H' m=some (.lst ((jK c ss).map V.str))) (fZ (i:=12) (N':=nd3) (nown:=2) (js:=[0]) rfl lH.nd rfl rfl rfl
     xbs (cF (aB hJ) NMB rfl rfl (by decide +kernel))
     ⟨λ_ _ _ _=>show PG _ _ (uX K 2 (gC (eK 0) (gC (eK 1) uY))) from eC rfl (aU (aP (i:=0) (show List.Nodup nd3 by decide +kernel) rfl (xAx rfl) (.inr rfl)) (aU (aP (i:=1) (show List.Nodup nd3 by decide +kernel) rfl (xAx rfl) (.inr rfl)) dG)),
      λ_ _ _ _=>jZ (cB pC (aX dD (bV GM hr rfl mM kM bM .nil cA (pac (pv 2) (pac (aX dY aN (pv 0)) aH))) aN) aN (cO _)),
      λ_ _ _ _=>pv 1⟩
     (iZ rfl T.enum (pac (pv 1) aH)))
   (aK (dR (cB pC (aX dD (aX fJ (pv 0) aN) aN) aN (cO _)) (aL (cW (aRl xBq PySem.F.slot_list_reverse PySem.F.type_list_reverse aCt (pv 5)))) cG)
   (aL (bO (hU (pac (eE cY (pv 3) aN (λ_ _=>rfl)) (pac (pv 11) (pac (pv 5) (pac (pv 12) aH))))))))))))),?_⟩
  refine⟨_,rfl,_,rfl,c,n,rfl,by omega,λl H1 s1 hl hl1=>⟨?_,?_⟩⟩
  ·refine⟨_,rfl,a,rfl,⟨_,s1.seq hA⟩,λD hD=>pT (xs:=ss.map V.str) (λi Z' H'=>∃ v0 v1,Z'=[v0,v1,some (.int c)]/\H' D=some (.lst ((tJ (pK c) ss i).map V.str))/\aO H1 H') ?_ ?_ ?_ ?_⟩
   ·exact⟨none,none,rfl,aD,smu hD⟩
   ·rintro i Z' H' _ ⟨v0,v1,rfl,h1,h2⟩;exact h2.seq (s1.seq hA)
   ·rintro i x Z' H' t hx ⟨v0,v1,rfl,h1,h2⟩ ht;rw[xAg] at hx;cases hz:(ss)[i]? with
    | none=>rw[hz] at hx; cases hx
    | some z=>
     rw[hz] at hx;cases hx;have hi:i<(ss).length:=(xAc.mp hz).1;have nD:D≠t:=λe=>by rw[e,ht] at h1; cases h1
     have sT:aO H1 (upd H' t (.tup [.int i,.str z])):=h2.trans (smu ht);have hlu:=lK (pK c) (ss) i;refine⟨t,_,rfl,SqT.of aD,rfl,_,_,rfl,_,_,rfl,rfl,_,rfl,_,rfl,_,_,rfl,rfl,c,_,rfl,_,_,rfl,rfl,(by show (0:Int)<4; decide),_,_,rfl,rfl,_,rfl,fU (λh4=>?_) (λh4=>?_)⟩
     ·have e4:pK c i=true:=h4;refine⟨_,rfl,_,by rw[aG nD]; exact h1,aR (by rw[xAa]; omega),some (.int i),some (.str z),rfl,?_,?_⟩
      ·rw[aD,iO hz,xBe e4,xAn];rfl
      ·intro b o e;rw[aG (aF e hD)];exact sT b o e
     ·have e4:¬ pK c i=true:=h4;refine⟨some (.int i),some (.str z),rfl,?_,sT⟩;rw[aG nD,iO hz,xAy e4,xBm];exact h1
   ·rintro Z' H' ⟨v0,v1,rfl,h1,h2⟩;rw[xAa] at h1;exact⟨l,D,rfl,h2 _ _ hl1,h1,s1.trans h2⟩
  rintro Z H2 ⟨l,kn,rfl,hl2,hk2,s2⟩;refine⟨by show 0<=sizeLine; decide,λd hd=>⟨?_,?_⟩⟩
  ·have hdH:H d=none:=s2.free hd;have ld:l≠d:=aF hl2 hd;have kd:kn≠d:=aF hk2 hd;have sd:aO H2 (upd H2 d (.lst [])):=smu hd;have D0:cN (upd H2 d (.lst [])) d []:=⟨⟨[],aD,rfl,λi t x h=>by cases h⟩⟩;refine⟨_,rfl,l,rfl,⟨_,SqL.of (sd _ _ hl2)⟩,?_⟩;have hl0:=sd _ _ hl2;have hk0:=sd _ _ hk2;have hA2:=sd.seq (s2.seq hA)
   have aA:∀ {H':Hp},(∀ b o,b≠d->H2 b=some o->H' b=some o)->(∃ ys,H' d=some (.lst ys))->SqL K H' a (ss.map V.str):=λ{H'} k z=>by
    rcases s2.seq hA with (h | ⟨o,h⟩) | h
    ·exact .inl (.inl (k _ _ (aF h hd) h))
    ·exact .inl (.inr ⟨o,k _ _ (aF h hd) h⟩)
    ·exact .inr h
   refine pJ (xs:=(bX c n).map V.str) (λi Z H'=>∃ x6 x7 x8 x9 x10,Z=[some (.int c),some (.ref a),some (.int n),some (.ref l),some (.ref kn),some (.ref d),x6,x7,x8,x9,x10,none,none]/\cN H' d (oE c (cX c ss) (bX c n) ss n i)/\∀ b o,b≠d->H2 b=some o->H' b=some o) ?_ ?_ ?_ ?_
   ·exact⟨none,none,none,none,none,rfl,D0,λb o _ h=>sd _ _ h⟩
   ·rintro i Z H' _ ⟨x6,x7,x8,x9,x10,rfl,h1,h2⟩;exact SqL.of (h2 _ _ ld hl2)
   ·rintro i x Z H' t hx ⟨x6,x7,x8,x9,x10,rfl,h1,h2⟩ ht;rw[xAg] at hx;cases hz:(bX c n)[i]? with
    | none=>rw[hz] at hx; cases hx
    | some r=>
     rw[hz] at hx;cases hx;have hi:i<n:=by have:=(xAc.mp hz).1; rw[eI] at this; exact this
     have sT:=smu (o:=.tup [.int i,.str r]) ht;have h2':∀ b o,b≠d->H2 b=some o->upd H' t (.tup [.int i,.str r]) b=some o:=λb o n h=>sT _ _ (h2 b o n h);have D1:=h1.same sT;refine⟨t,_,rfl,SqT.of aD,rfl,_,_,rfl,_,_,rfl,rfl,?_⟩;generalize upd H' t (.tup [.int i,.str r])=H3 at h2' D1 ⊢;refine⟨_,rfl,a,rfl,⟨_,aA h2' (let ⟨_,z,_⟩:=D1.ex; ⟨_,z⟩)⟩,?_⟩;refine pJ (xs:=ss.map V.str) (λk Z H'=>∃ x8 x9 x10,Z=[some (.int c),some (.ref a),some (.int n),some (.ref l),some (.ref kn),some (.ref d),some (.int i),some (.str r),x8,x9,x10,none,none]/\cN H' d (oE c (cX c ss) (bX c n) ss n i++xD c (cX c ss) (bX c n) ss n i k)/\∀ b o,b≠d->H2 b=some o->H' b=some o) ?_ ?_ ?_ ?_
     ·exact⟨x8,x9,x10,rfl,by rw[show xD c (cX c ss) (bX c n) ss n i 0=[] from rfl,xBm]; exact D1,h2'⟩
     ·rintro k Z H' _ ⟨x8,x9,x10,rfl,h3,h4⟩;exact aA h4 (let ⟨_,z,_⟩:=h3.ex; ⟨_,z⟩)
     ·rintro k x Z H' t' hx ⟨x8,x9,x10,rfl,h3,h4⟩ ht';rw[xAg] at hx;cases hy:ss[k]? with
      | none=>rw[hy] at hx; cases hx
      | some y=>
       rw[hy] at hx;cases hx;have hk:k<ss.length:=(xAc.mp hy).1;have es:=aGc (c:=c) (kn:=cX c ss) (n:=n) hz hy;have sT':=smu (o:=.tup [.int k,.str y]) ht';have h4':∀ b o,b≠d->H2 b=some o->upd H' t' (.tup [.int k,.str y]) b=some o:=λb o n h=>sT' _ _ (h4 b o n h);have D3:=h3.same sT';refine⟨t',_,rfl,SqT.of aD,rfl,_,_,rfl,_,_,rfl,rfl,?_⟩;generalize upd H' t' (.tup [.int k,.str y])=H4 at h4' D3 ⊢;refine⟨_,rfl,_,rfl,_,_,rfl,rfl,.inl ⟨by decide,by decide⟩,_,rfl,_,_,rfl,rfl,c,_,rfl,?_⟩;refine⟨_,rfl,_,rfl,kn,_,rfl,.inl (SqL.of (h4' _ _ kd hk2)),rfl,aHn _,_,rfl,?_⟩;have ei:inV (.str y) ((cX c ss).map V.str)=decide (y∈cX c ss):=xP _ _
       have stay:(decide (y∈cX c ss)&&decide (drw c i k%3>0))=false->cN H4 d (oE c (cX c ss) (bX c n) ss n i++xD c (cX c ss) (bX c n) ss n i (k+1)):=λz=>by
        rw[es,xAy (by rw[z]; exact xAs),xBm];exact D3
       refine fU (λg1=>?_) (λg1=>?_)
       ·have g1':decide (y∈cX c ss)=true:=ei.symm.trans g1;refine⟨_,rfl,_,_,rfl,rfl,(by show (0:Int)<3; decide),_,_,rfl,rfl,_,rfl,fU (λg2=>?_) (λg2=>?_)⟩
        ·have g2':decide (drw c i k%3>0)=true:=g2;have gi:=cK (drw c i k/3) (m:=(n:Int)) (by omega);have hat:atI ((bX c n).map V.str) (drw c i k/3%n)=some (.str ((bX c n).getD (drw c i k/3%n).toNat "")):=iU V.str (bX c n) "" gi.1 (by rw[eI]; exact gi.2);obtain⟨_,hdd,_⟩:=D3.ex;refine⟨_,rfl,.inl ⟨rfl,_,SqL.of hdd⟩,_,rfl,_,rfl,_,rfl,_,rfl,_,_,rfl,rfl,⟨by decide,by decide⟩,_,rfl,_,_,rfl,rfl,(by show (0:Int)<n; omega),l,_,_,_,rfl,rfl,SqL.of (h4' _ _ ld hl2),hat,by show 3<=sizeLine; decide,λt2 ht2=>?_⟩;obtain⟨xs,hx1,hx2,hx3⟩:=D3.push ht2 (r,y,(bX c n).getD (drw c i k/3%n).toNat "");have td:t2≠d:=λz=>by rw[z,hx1] at ht2; cases ht2
         refine⟨d,xs,_,rfl,rfl,by rw[aG (Ne.symm td)]; exact hx1,?_,_,_,_,rfl,?_,λb o nb h=>?_⟩
         ·have a1:=uM c (cX c ss) (bX c n) ss n i;have a2:=zA c (cX c ss) (bX c n) ss n i k;rw[hx2,xAj];have a3:ss.length*i<=12*5:=Nat.mul_le_mul hs12 (by omega);exact aR (by omega)
         ·rw[es,xBe (by rw[g1',g2']; rfl),<- xFn];exact hx3
         ·rw[aG nb];exact smu ht2 _ _ (h4' b o nb h)
        ·exact⟨_,_,_,rfl,stay (by rw[g1',xGz]; exact xCs.mpr g2),h4'⟩
       ·have g1':¬ inV (.str y) ((cX c ss).map V.str)=true:=g1;exact⟨_,_,_,rfl,stay (by rw[<- ei,xCs.mpr g1',xFo]),h4'⟩
     ·rintro Z H' ⟨x8,x9,x10,rfl,h3,h4⟩;rw[xAa,<- wN] at h3;exact⟨_,_,_,_,_,rfl,h3,h4⟩
   ·rintro Z H' ⟨x6,x7,x8,x9,x10,rfl,h1,h2⟩;rw[xAa,eI] at h1;exact⟨l,kn,d,x6,x7,x8,x9,x10,rfl,h2 _ _ ld hl2,h2 _ _ kd hk2,h1,hdH,ld,kd,λb o h=>h2 _ _ (aF h hdH) (s2 _ _ h),λp h=>by rcases h with h | h <;> cases h⟩
  clear hl hl1 s1 hl2 hk2 s2 hd;rintro Z H3 ⟨l,kn,d,x6,x7,x8,x9,x10,rfl,hl3,hk3,hd3,hd0,n1,n2,s3,nn⟩;refine⟨?_,?_⟩
  ·refine⟨_,rfl,l,rfl,⟨_,SqL.of hl3⟩,λD hD=>pT (xs:=(bX c n).map V.str) (λi Z' H'=>∃ v0 v1,Z'=[v0,v1,some (.int c)]/\H' D=some (.lst ((tJ (pE c) (bX c n) i).map V.str))/\aO H3 H') ?_ ?_ ?_ ?_⟩
   ·exact⟨none,none,rfl,aD,smu hD⟩
   ·rintro i Z' H' _ ⟨v0,v1,rfl,h1,h2⟩;exact h2.seq (SqL.of hl3)
   ·rintro i x Z' H' t hx ⟨v0,v1,rfl,h1,h2⟩ ht;rw[xAg] at hx;cases hz:((bX c n))[i]? with
    | none=>rw[hz] at hx; cases hx
    | some z=>
     rw[hz] at hx;cases hx;have hi:i<((bX c n)).length:=(xAc.mp hz).1;have nD:D≠t:=λe=>by rw[e,ht] at h1; cases h1
     have sT:aO H3 (upd H' t (.tup [.int i,.str z])):=h2.trans (smu ht);have hlu:=lK (pE c) ((bX c n)) i;refine⟨t,_,rfl,SqT.of aD,rfl,_,_,rfl,_,_,rfl,rfl,_,rfl,_,rfl,_,_,rfl,rfl,c,_,rfl,_,_,rfl,rfl,(by show (0:Int)<2; decide),rfl,_,rfl,fU (λh4=>?_) (λh4=>?_)⟩
     ·have e4:pE c i=true:=xAv (V.int.inj (xAp h4));refine⟨_,rfl,_,by rw[aG nD]; exact h1,aR (by rw[xAa]; rw[eI] at hi; omega),some (.int i),some (.str z),rfl,?_,?_⟩
      ·rw[aD,iO hz,xBe e4,xAn];rfl
      ·intro b o e;rw[aG (aF e hD)];exact sT b o e
     ·have e4:¬ pE c i=true:=λz=>h4 (xAv (congrArg V.int (xAp z)));refine⟨some (.int i),some (.str z),rfl,?_,sT⟩;rw[aG nD,iO hz,xAy e4,xBm];exact h1
   ·rintro Z' H' ⟨v0,v1,rfl,h1,h2⟩;rw[xAa] at h1;rw[eI] at h1
    exact⟨D,⟨l,kn,d,x6,x7,x8,x9,x10,rfl,h2 _ _ hl3,h2 _ _ hk3,hd3.same h2,hd0,n1,n2,s3.trans h2,λp h=>by
     obtain⟨_,hdd,_⟩:=hd3.ex;rcases h with h | h
     ·cases h; exact⟨Ne.symm (aF hdd hD),s3.free hD⟩
     ·cases h⟩,h1⟩
  clear hl3 hk3 hd3 hd0 n1 n2 s3 nn;rintro Z H4 ⟨e,⟨l,kn,d,x6,x7,x8,x9,x10,rfl,hl4,hk4,hd4,hd0,n1,n2,s4,nn⟩,he4⟩;refine⟨?_,?_⟩
  ·refine⟨_,rfl,a,rfl,⟨_,s4.seq hA⟩,λD hD=>pT (xs:=ss.map V.str) (λi Z' H'=>∃ v0 v1,Z'=[v0,v1,some (.int c)]/\H' D=some (.lst ((tJ (pM c) ss i).map V.str))/\aO H4 H') ?_ ?_ ?_ ?_⟩
   ·exact⟨none,none,rfl,aD,smu hD⟩
   ·rintro i Z' H' _ ⟨v0,v1,rfl,h1,h2⟩;exact h2.seq (s4.seq hA)
   ·rintro i x Z' H' t hx ⟨v0,v1,rfl,h1,h2⟩ ht;rw[xAg] at hx;cases hz:(ss)[i]? with
    | none=>rw[hz] at hx; cases hx
    | some z=>
     rw[hz] at hx;cases hx;have hi:i<(ss).length:=(xAc.mp hz).1;have nD:D≠t:=λe=>by rw[e,ht] at h1; cases h1
     have sT:aO H4 (upd H' t (.tup [.int i,.str z])):=h2.trans (smu ht);have hlu:=lK (pM c) (ss) i;refine⟨t,_,rfl,SqT.of aD,rfl,_,_,rfl,_,_,rfl,rfl,_,rfl,_,rfl,_,_,rfl,rfl,c,_,rfl,_,_,rfl,rfl,(by show (0:Int)<8; decide),rfl,_,rfl,fU (λh4=>?_) (λh4=>?_)⟩
     ·have e4:pM c i=true:=xAv (V.int.inj (xAp h4));refine⟨_,rfl,_,by rw[aG nD]; exact h1,aR (by rw[xAa]; omega),some (.int i),some (.str z),rfl,?_,?_⟩
      ·rw[aD,iO hz,xBe e4,xAn];rfl
      ·intro b o e;rw[aG (aF e hD)];exact sT b o e
     ·have e4:¬ pM c i=true:=λz=>h4 (xAv (congrArg V.int (xAp z)));refine⟨some (.int i),some (.str z),rfl,?_,sT⟩;rw[aG nD,iO hz,xAy e4,xBm];exact h1
   ·rintro Z' H' ⟨v0,v1,rfl,h1,h2⟩;rw[xAa] at h1
    exact⟨e,D,⟨l,kn,d,x6,x7,x8,x9,x10,rfl,h2 _ _ hl4,h2 _ _ hk4,hd4.same h2,hd0,n1,n2,s4.trans h2,λp h=>by
     obtain⟨_,hdd,_⟩:=hd4.ex;rcases h with h | h
     ·exact nn p (.inl h)
     ·cases h; exact⟨Ne.symm (aF hdd hD),s4.free hD⟩⟩,h2 _ _ he4,h1⟩
  clear hl4 hk4 hd4 hd0 n1 n2 s4 he4 nn;rintro Z H5 ⟨e,m,⟨l,kn,d,x6,x7,x8,x9,x10,rfl,hl5,hk5,hd5,hd0,n1,n2,s5,nn⟩,he5,hm5⟩
  have r0:atI ((bX c n).map V.str) 0=some (.str (gD c 0)):=by
   have:=iF (xs:=(bX c n).map V.str) (j:=0) (v:=.str (gD c 0)) (by
    rw[xAg];unfold bX;rw[xAg,xGg (by omega)];rfl)
   exact this
  refine⟨_,rfl,_,_,rfl,rfl,⟨by decide,by decide⟩,_,_,rfl,rfl,(by show (0:Int)<2; decide),rfl,_,rfl,fU (λh4=>?_) (λh4=>?_)⟩
  ·have e4:c/15%2=1:=V.int.inj (xAp h4);obtain⟨xs,hx1,hx2,hx3⟩:=hd5.rev;have sb:∀ {b:Addr}{o:HO},H5 b=some o->b≠d->upd H5 d (.lst xs.reverse) b=some o:=λh nb=>by rw[aG nb]; exact h
   refine⟨_,rfl,.inl ⟨rfl,_,SqL.of hx1⟩,d,xs,rfl,rfl,hx1,?_⟩;refine⟨_,rfl,l,_,_,_,rfl,rfl,SqL.of (sb hl5 n1),r0,_,rfl,_,rfl,_,rfl,by show 4<=sizeLine; decide,λt ht=>?_⟩;refine q t e d m _ (λb o h=>smu ht _ _ (by rw[aG (aF h hd0)]; exact s5 _ _ h)) (nn _ (.inl rfl)).2 hd0 (nn _ (.inr rfl)).2 aD (smu ht _ _ (sb he5 (nn _ (.inl rfl)).1)) ?_ (smu ht _ _ (sb hm5 (nn _ (.inr rfl)).1));unfold dB;rw[xBe e4];exact hx3.same (smu ht)
  ·have e4:¬ c/15%2=1:=λz=>h4 (xAv (congrArg V.int z));refine⟨_,rfl,l,_,_,_,rfl,rfl,SqL.of hl5,r0,_,rfl,_,rfl,_,rfl,by show 4<=sizeLine; decide,λt ht=>?_⟩;refine q t e d m _ (s5.trans (smu ht)) (nn _ (.inl rfl)).2 hd0 (nn _ (.inr rfl)).2 aD (smu ht _ _ he5) ?_ (smu ht _ _ hm5);unfold dB;rw[xAy e4];exact hd5.same (smu ht)
inductive aQn (H:Hp)(t:Addr)(c:Int)(n:Nat)(ss:List Str):Prop
 | mk (e d m:Addr)(h0_:H t=some (.tup [.str (gD c 0),.ref e,.ref d,.ref m]))(h1_:H e=some (.lst ((iB c n).map V.str)))(h2_:cN H d (dB c ss n))(h3_:H m=some (.lst ((jK c ss).map V.str)))
structure pW (H:Hp)(p:Addr)(l:List (Int×Nat))(ss:List Str):Prop where
 ex:∃ ts:List Addr,H p=some (.lst (ts.map V.ref))/\ts.length=l.length/\∀ (i:Nat) (t:Addr) (x:Int×Nat),ts[i]?=some t->l[i]?=some x->aQn H t x.1 x.2 ss
def z1 (c:Int):Nat:=1+(c/7%5).toNat
def z2 (c:Int):Nat:=1+(c/7%3).toNat
def z3 (c:Int):Nat:=1+(c/7%2).toNat
def rG (c:Int):Nat:=([1,2,2,3]:List Nat).getD (c/35%4).toNat 1
def vV (c1 c2 c3:Int):List (Int×Nat):=[(c1,z1 c1),(c2,z2 c2),(c3,z3 c3)]
def plant (c1 c2 c3:Int):List (Int×Nat):=(vV c1 c2 c3).take (rG c1)
theorem aHd:∀ n,n<4->1<=([1,2,2,3]:List Nat).getD n 1/\([1,2,2,3]:List Nat).getD n 1<=3/\([1,2,2,3]:List Int).getD n 1=((([1,2,2,3]:List Nat).getD n 1:Nat):Int):=by decide +kernel
theorem aAh (c:Int):1<=rG c/\rG c<=3/\([1,2,2,3]:List Int).getD (c/35%4).toNat 1=((rG c:Nat):Int):=by
 have h:=cK (c/35) (m:=4) (by decide);exact aHd _ (by omega)
theorem aPu (c1 c2 c3:Int):∀ x∈vV c1 c2 c3,1<=x.2/\x.2<=5:=by
 have h1:=cK (c1/7) (m:=5) (by decide);have h2:=cK (c2/7) (m:=3) (by decide);have h3:=cK (c3/7) (m:=2) (by decide);intro x hx;rcases xAo.mp hx with rfl | hx
 ·exact⟨by show 1<=z1 c1; unfold z1; omega,by show z1 c1<=5; unfold z1; omega⟩
 rcases xAo.mp hx with rfl | hx
 ·exact⟨by show 1<=z2 c2; unfold z2; omega,by show z2 c2<=5; unfold z2; omega⟩
 rcases xAo.mp hx with rfl | hx
 ·exact⟨by show 1<=z3 c3; unfold z3; omega,by show z3 c3<=5; unfold z3; omega⟩
 cases hx
theorem aJr (c1 c2 c3:Int)(i:Nat)(h:i<3):∃ x:Int×Nat,(vV c1 c2 c3)[i]?=some x/\atI ([c1,c2,c3].map V.int) (i:Int)=some (.int x.1)/\atI ([z1 c1,z2 c2,z3 c3].map λn:Nat=>V.int n) (i:Int)=some (.int x.2):=by
 match i,h with
 | 0,_=>exact⟨_,rfl,rfl,rfl⟩
 | 1,_=>exact⟨_,rfl,rfl,rfl⟩
 | 2,_=>exact⟨_,rfl,rfl,rfl⟩
inductive rA (D:Addr)(H:Hp)(t:Addr)(c:Int)(n:Nat)(ss:List Str):Prop
 | mk (e d m:Addr)(h0_:H t=some (.tup [.str (gD c 0),.ref e,.ref d,.ref m]))(h1_:H e=some (.lst ((iB c n).map V.str)))(h2_:cN H d (dB c ss n))(h3_:H m=some (.lst ((jK c ss).map V.str)))(h4_:e≠D)(h5_:d≠D)(h6_:m≠D)
theorem rA.same {D:Addr}{H H':Hp}{t:Addr}{c:Int}{n:Nat}{ss:List Str}(R:rA D H t c n ss)(sm:aO H H'):rA D H' t c n ss:=by
 obtain⟨e,d,m,h0,h1,h2,h3,h4,h5,h6⟩:=R;exact⟨e,d,m,sm _ _ h0,sm _ _ h1,h2.same sm,sm _ _ h3,h4,h5,h6⟩
theorem rA.put {H:Hp}{t D:Addr}{c:Int}{n:Nat}{ss:List Str}{ys:List V}(R:rA D H t c n ss)(hD:∃ xs,H D=some (.lst xs)):rA D (upd H D (.lst ys)) t c n ss:=by
 obtain⟨e,d,m,h0,h1,h2,h3,h4,h5,h6⟩:=R;obtain⟨xs,hD⟩:=hD;obtain⟨ts,b1,b2,b3⟩:=h2.ex;refine⟨e,d,m,by rw[aG (λz=>by rw[z,hD] at h0; cases h0)]; exact h0,by rw[aG h4]; exact h1,⟨ts,by rw[aG h5]; exact b1,b2,λi u x hu hx=>?_⟩,by rw[aG h6]; exact h3,h4,h5,h6⟩
 have:=b3 i u x hu hx
 rw[aG (λz=>by rw[z,hD] at this; cases this)];exact this
theorem rA.row {D:Addr}{H:Hp}{t:Addr}{c:Int}{n:Nat}{ss:List Str}(R:rA D H t c n ss):aQn H t c n ss:=by
 obtain⟨e,d,m,h0,h1,h2,h3,_⟩:=R;exact⟨e,d,m,h0,h1,h2,h3⟩
inductive vN (K:xAd)(vs:List V)(H:Hp)(Q:VK)(E:XK):Prop
 | mk (a b:Addr)(c1 c2 c3:Int)(ss:List Str)(h0_:vs=[.ref a,.ref b])(h1_:SqL K H a ([c1,c2,c3].map V.int))(h2_:SqL K H b (ss.map V.str))(h3_:ss.length<=12)
  (h4_:∀ (p:Addr) H',aO H H'->pW H' p (plant c1 c2 c3) ss->Q (.ref p) H')
abbrev NPB:List Str:=["_law_cells","_law_names","_law_sizes"]
theorem aTl:aQ NPB ["_law_cells","_law_names"] (aB oO):=xfs
abbrev nd5:List Str:=["_law_k","_law_cells","_law_names","_law_sizes"]
theorem aCh {f fB:Addr}{fd fdB:FuncData}(F:Fun K "_law_plant_by" "_law_plant_by" oO f fd)(T:Txt K mg)
  (GB:aY P w K mg base CX0 2 fB fdB ["_law_cell","_law_names","_law_many"] (lG K))(kB:keepIn K (.ref fB)=true)(bB:aW K fdB ["_law_cell","_law_names","_law_many"] [])(mB:mg "_law_machine_by" = some (.ref fB)) :
  aY P w K mg base CX0 3 f fd ["_law_cells","_law_names"] (vN K):=by
 refine F.ok aTl (λvs H Q E h=>?_) (λcdv A outer s H vs Q E hr h=>?_)
 ·obtain⟨a,b,c1,c2,c3,ss,rfl,_⟩:=h;rfl
 ·obtain⟨a,b,c1,c2,c3,ss,rfl,hA,hB,hs12,q⟩:=h
  refine⟨_,aK (bJ (i:=2) aTl.nd rfl (xHg rfl) (cM (pac (aX dY aN (aX dD (aX fJ (eE cY (pv 0) aN (λ_ _=>rfl)) aN) aN))
    (pac (aX dY aN (aX dD (aX fJ (eE cY (pv 0) aN (λ_ _=>rfl)) aN) aN))
    (pac (aX dY aN (aX dD (aX fJ (eE cY (pv 0) aN (λ_ _=>rfl)) aN) aN)) aH)))))
   (aL (bO (dW (N':=nd5) (nown:=1) (js:=[0,1,2]) rfl
     xbs (cF (aB oO) NPB rfl rfl (by decide +kernel))
     ⟨λ_ _ _ _=>aP (i:=0) (show List.Nodup nd5 by decide +kernel) rfl (xAx rfl) (.inr rfl),λ_ _ _ _=>dU,
      λ_ _ _ _=>bV GB hr rfl mB kB bB .nil cA (pac (eE (show IxR _ (zG K) from cY) (pv 1) (pv 0) (λ_ _=>rfl)) (pac (pv 2) (pac (eE (show IxR _ (zG K) from cY) (pv 3) (pv 0) (λ_ _=>rfl)) aH)))⟩
     (gN rfl T.range (pac (eE cY (cM (pac aN (pac aN (pac aN (pac aN aH))))) (aX dD (aX fJ (eE cY (pv 0) aN (λ_ _=>rfl)) aN) aN) (λ_ _=>rfl)) aH))))),?_⟩
  have g1:=cK (c1/7) (m:=5) (by decide);have g2:=cK (c2/7) (m:=3) (by decide);have g3:=cK (c3/7) (m:=2) (by decide);have g4:=cK (c1/35) (m:=4) (by decide);have hm:=aAh c1;refine⟨_,rfl,a,_,_,.int c1,rfl,rfl,hA,rfl,_,_,rfl,rfl,⟨by decide,by decide⟩,_,_,rfl,rfl,(by show (0:Int)<5; decide),_,_,rfl,rfl,_,rfl,a,_,_,.int c2,rfl,rfl,hA,rfl,_,_,rfl,rfl,⟨by decide,by decide⟩,_,_,rfl,rfl,(by show (0:Int)<3; decide),_,_,rfl,rfl,_,rfl,a,_,_,.int c3,rfl,rfl,hA,rfl,_,_,rfl,rfl,⟨by decide,by decide⟩,_,_,rfl,rfl,(by show (0:Int)<2; decide),_,_,rfl,rfl,by show 3<=sizeLine; decide,λp1 hp1=>?_⟩
  have e1:(upd H p1 (.lst [.int (1+c1/7%5),.int (1+c2/7%3),.int (1+c3/7%2)])) p1=some (.lst ([z1 c1,z2 c2,z3 c3].map λn:Nat=>V.int n)):=by
   rw[aD];have a1:1+c1/7%5=((z1 c1:Nat):Int):=by unfold z1; omega
   have a2:1+c2/7%3=((z2 c2:Nat):Int):=by unfold z2; omega
   have a3:1+c3/7%2=((z3 c3:Nat):Int):=by unfold z3; omega
   rw[a1,a2,a3];rfl
  have s1:aO H (upd H p1 (.lst [.int (1+c1/7%5),.int (1+c2/7%3),.int (1+c3/7%2)])):=smu hp1;generalize upd H p1 (.lst [.int (1+c1/7%5),.int (1+c2/7%3),.int (1+c3/7%2)])=H1 at e1 s1 ⊢;have hat:atI ([1,2,2,3].map V.int) (c1/35%4)=some (.int ((rG c1:Nat):Int)):=by rw[<- hm.2.2]; exact iU V.int [1,2,2,3] 1 g4.1 g4.2
  refine⟨by show 4<=sizeLine; decide,λp2 hp2=>⟨_,rfl,a,_,_,.int c1,rfl,rfl,(s1.trans (smu hp2)).seq hA,rfl,_,_,rfl,rfl,⟨by decide,by decide⟩,_,_,rfl,rfl,(by show (0:Int)<4; decide),p2,_,_,_,rfl,rfl,SqL.of aD,hat,_,rfl,by omega,by omega,?_⟩⟩;have s2:=s1.trans (smu (o:=.lst ([1,2,2,3].map V.int)) hp2);have e2:=smu (o:=.lst ([1,2,2,3].map V.int)) hp2 _ _ e1;intro D hD;refine iP (n:=rG c1) (λi Z' H'=>∃ v,Z'=[v,some (.ref a),some (.ref b),some (.ref p1)]/\(∃ ts:List Addr,H' D=some (.lst (ts.map V.ref))/\ts.length=i/\∀ (j:Nat) (t:Addr) (x:Int×Nat),ts[j]?=some t->(vV c1 c2 c3)[j]?=some x->rA D H' t x.1 x.2 ss)/\∀ b o,b≠D->upd H1 p2 (.lst ([1,2,2,3].map V.int)) b=some o->H' b=some o) ?_ ?_ ?_
  ·exact⟨none,rfl,⟨[],aD,rfl,λj t x h=>by cases h⟩,λb o n h=>by rw[aG n]; exact h⟩
  ·rintro i Z' H' hi ⟨v,rfl,⟨ts,t1,t2,t3⟩,k⟩;obtain⟨x,hx0,hx1,hx2⟩:=aJr c1 c2 c3 i (by omega);have hxz:=aPu c1 c2 c3 x (xAu hx0)
   have sq:∀ {p:Addr}{xs:List V},SqL K (upd H1 p2 (.lst ([1,2,2,3].map V.int))) p xs->SqL K H' p xs:=λ{p xs} h=>by
    rcases h with (h | ⟨o,h⟩) | h
    ·exact .inl (.inl (k _ _ (aF h hD) h))
    ·exact .inl (.inr ⟨o,k _ _ (aF h hD) h⟩)
    ·exact .inr h
   refine⟨_,rfl,_,rfl,a,_,_,.int x.1,rfl,rfl,sq (s2.seq hA),by rw[xDy]; exact hx1,_,rfl,_,rfl,_,rfl,p1,_,_,.int x.2,rfl,rfl,sq (SqL.of e2),by rw[xDy]; exact hx2,x.1,b,x.2,ss,rfl,sq (s2.seq hB),hxz.1,hxz.2,hs12,λt e d m H3 s3 he hd hm' ht he3 hd3 hm3=>?_⟩;have t13:=s3 _ _ t1;refine⟨_,t13,aR (by rw[xAa]; omega),_,rfl,⟨ts++[t],by rw[aD,xAn]; rfl,by rw[xAj,t2]; rfl,λj u y hu hy=>?_⟩,λb o n h=>by rw[aG n]; exact s3 _ _ (k b o n h)⟩
   by_cases hj:j<ts.length
   ·rw[xBf hj] at hu;exact ((t3 j u y hu hy).same s3).put ⟨_,t13⟩
   ·have hl:j=ts.length:=by
     have:=(xAc.mp hu).1
     rw[xAj] at this;simp only[List.length_cons,List.length_nil] at this;omega
    subst hl;rw[xBh (xAi _),xDg] at hu;cases hu;rw[t2,hx0] at hy;cases hy;have nD:∀ {p:Addr},H' p=none->p≠D:=λh z=>by rw[z,t1] at h; cases h
    exact (rA.mk e d m ht he3 hd3 hm3 (nD he) (nD hd) (nD hm')).put ⟨_,t13⟩
  ·rintro Z' H' ⟨v,rfl,⟨ts,t1,t2,t3⟩,k⟩;refine q D H' (λb o h=>k _ _ (aF h (s2.free hD)) (s2 _ _ h)) ⟨ts,t1,?_,λj t x hj hx=>?_⟩
   ·rw[t2];unfold plant;rw[xAt];show _=min (rG c1) 3;omega
   ·unfold plant at hx;have hjl:j<rG c1:=by rw[<- t2]; exact (xAc.mp hj).1
    rw[xIy hjl] at hx;exact (t3 j t x hj hx).row
theorem qA {rs:List Str}{z:Str}:z∈unl rs []↔z∈rs:=by
 rw[aDu];exact⟨λh=>h.elim (λh=>nomatch h) id,.inr⟩
theorem aLu (k:List (Key×V))(l:List Str)(s:Str)(v:V)(h:k.map (·.1)=l.map Sum.inr):(eY k (Sum.inr s) v).map (·.1)=(if s∈l then l else l++[s]).map Sum.inr:=by
 unfold eY;rw[lY,h]
 have m:(k.map λkv=>if kv.1=(Sum.inr s:Key) then (kv.1,v) else kv).map (·.1)=k.map (·.1):=by
  rw[xDx];refine xHq λp _=>?_;show (if p.1=_ then (p.1,v) else p).1=p.1
  split <;> rfl
 by_cases q:s∈l
 ·rw[xBe q,xBe (by rw[xEz]; exact⟨_,xBc.mpr ⟨s,q,rfl⟩,xAv rfl⟩),m,h]
 ·rw[xAy q,xAy λz=>by
   obtain⟨x,hx,e⟩:=xEz.mp z;obtain⟨y,hy,rfl⟩:=xBc.mp hx;exact q (Sum.inr.inj (xAp e)▸hy),xAn,h,xAn]
  rfl
theorem xN:∀ (ss:List Str) (k:List (Key×V)) (l:List Str),k.map (·.1)=l.map Sum.inr->(mks ss k).map (·.1)=(unl ss l).map Sum.inr
 | [],k,l,h=>h
 | s::r,k,l,h=>xN r _ _ (aLu k l s _ h)
theorem nC {kvs:List (Key×V)}{rs:List Str}(h:kvs.map (·.1)=(mks rs []).map (·.1)):kvs.map (λkv=>L2.kV kv.1)=(unl rs []).map V.str:=by
 have e:kvs.map (λkv=>L2.kV kv.1)=(kvs.map (·.1)).map L2.kV:=by rw[xDx]; rfl
 rw[e,h,xN rs [] [] rfl,xDx];rfl
theorem qO:∀ (fs:List Str) (kvs:List (Key×V)) (z:Str),(dC (mks fs kvs) (Sum.inr z)).isSome=(decide (z∈fs)||(dC kvs (Sum.inr z)).isSome)
 | [],kvs,z=>by simp[mks]
 | s::r,kvs,z=>by
  rw[mks,qO r,lD]
  by_cases h:z=s
  ·subst h
   simp
  ·rw[xAy λe=>h (Sum.inr.inj e)];simp[h]
theorem qS {kvs:List (Key×V)}{rs:List Str}(h:kvs.map (·.1)=(mks rs []).map (·.1))(z:Str):(dC kvs (Sum.inr z)).isSome=decide (z∈rs):=by
 have:=qO rs [] z
 rw[show (dC ([]:List (Key×V)) (Sum.inr z)).isSome=false from rfl,xJj] at this
 rw[<- this,<- gR,<- gR,lY,lY,h]
theorem dO {rs N:List Str}(h:∀ z∈rs,z∈N):(unl rs []).length<=N.length:=by
 have:∀ (l m:List Str),l.Nodup->(∀ z∈l,z∈m)->l.length<=m.length:=λl m hd hs=>by
  induction l generalizing m with
  | nil=>exact xCa _
  | cons x r ih=>
   have hn:=xEg.mp hd;have h1:=ih (m.erase x) hn.2 (λz hz=>(List.mem_erase_of_ne (λ(e:z=x)=>hn.1 (e▸hz))).mpr (hs z (xBi _ hz)));have hx:=hs x (xBk ..);have h2:=List.length_pos_of_mem hx;rw[xIx hx] at h1;simp only[List.length_cons];omega
 exact this _ _ (jO _ _ .nil) λz hz=>h z (qA.mp hz)
inductive sV (CM:Addr)(vs:List V)(H:Hp)(Q:VK)(E:XK):Prop
 | mk (x dd:Addr)(b:Str)(es kn:List Str)(ds:List Dr)(h0_:vs=[.ref x])(h1_:MM CM H x dd b es kn ds)(h2_:Q (.ref dd) H)
inductive jV (CM:Addr)(f:Str->List Str->List Str->List Dr->List Str)(vs:List V)(H:Hp)(Q:VK)(E:XK):Prop
 | mk (x dd:Addr)(b:Str)(es kn:List Str)(ds:List Dr)(h0_:vs=[.ref x])(h1_:MM CM H x dd b es kn ds)(h2_:(unl (f b es kn ds) []).length<64)
  (h3_:∀ (l:Addr) (ts:List Str) H',aO H H'->H l=none->H' l=some (.lst (ts.map V.str))->xBr ts=true->ts.Perm (unl (f b es kn ds) [])->Q (.ref l) H')
abbrev rL (b:Str)(es:List Str)(ds:List Dr)(z:Str):Prop:=aZ z=true/\z∈cH b es ds
inductive wT (CM cR:Addr)(vs:List V)(H:Hp)(Q:VK)(E:XK):Prop
 | mk (x dd:Addr)(b z:Str)(es kn:List Str)(ds:List Dr)(h0_:vs=[.ref x,.str z])(h1_:MM CM H x dd b es kn ds)(h2_:z.length<=1000)(h3_:rL b es ds z->∀ H',aO H H'->Q .non H')(h4_:¬ rL b es ds z->∀ H',aO H H'->E (.ref cR) none H')
inductive aJa (C CM cR cD:Addr)(vs:List V)(H:Hp)(Q:VK)(E:XK):Prop
 | mk (x dd:Addr)(b z:Str)(y:V)(es kn:List Str)(ds:List Dr)(wk:List (Key×V))(h0_:vs=[.ref x,.str z,y])(h1_:MM CM H x dd b es kn ds)(h2_:z.length<=1000)(h4_:WAt C H dd wk)(h5_:aBa y)
  (h6_:rL b es ds z->dM wk y=true->∀ (u:Str) H',y=.str u->aO H H'->Q (oV (gT ds z u)) H')(h7_:rL b es ds z->dM wk y=false->∀ H',aO H H'->E (.ref cD) none H')(h8_:¬ rL b es ds z->∀ H',aO H H'->E (.ref cR) none H')
inductive vP (CM cR:Addr)(vs:List V)(H:Hp)(Q:VK)(E:XK):Prop
 | mk (x dd:Addr)(b z:Str)(es kn:List Str)(ds:List Dr)(h0_:vs=[.ref x,.str z])(h1_:MM CM H x dd b es kn ds)(h2_:z.length<=1000)(h3_:rL b es ds z->∀ H',aO H H'->Q (.bl (decide (z∈es))) H')(h4_:¬ rL b es ds z->∀ H',aO H H'->E (.ref cR) none H')
theorem aWo:aQ ["self"] ["self"] (aB aCz):=xfs
theorem aGv {f CM:Addr}{fd:FuncData}(F:Fun K "deeds" "Machine.deeds" aCz f fd)(MC:lA K CM):aY P w K mg base CX0 1 f fd ["self"] (sV CM):=by
 refine F.ok aWo (λvs H Q E h=>?_) (λcdv A outer s H vs Q E hr h=>?_)
 ·obtain⟨x,dd,b,es,kn,ds,rfl,_⟩:=h;rfl
 ·obtain⟨x,dd,b,es,kn,ds,rfl,⟨dx,l,e,k,kvs,g,M⟩,q⟩:=h;exact⟨_,aL (bO (eN (pv 0) rfl)),_,rfl,x,CM,dx,_,_,rfl,M.ins,MC.cl,MC.nd,by rfl,q⟩
theorem aWp:aQ ["self"] ["self"] (aB aDa):=xfs
theorem aGw {f CM:Addr}{fd:FuncData}(F:Fun K "begin" "Machine.begin" aDa f fd)(MC:lA K CM):aY P w K mg base CX0 1 f fd ["self"] (sW CM):=by
 refine F.ok aWp (λvs H Q E h=>?_) (λcdv A outer s H vs Q E hr h=>?_)
 ·obtain⟨x,dd,b,es,kn,ds,rfl,_⟩:=h;rfl
 ·obtain⟨x,dd,b,es,kn,ds,rfl,⟨dx,l,e,k,kvs,g,M⟩,q⟩:=h;exact⟨_,aL (bO (eN (pv 0) rfl)),_,rfl,x,CM,dx,_,_,rfl,M.ins,MC.cl,MC.nf,by rfl,q⟩
abbrev aMe (b:Str)(es _kn:List Str)(ds:List Dr):List Str:=cH b es ds
abbrev aQk (_b:Str)(es _kn:List Str)(_ds:List Dr):List Str:=es
abbrev aDl (_b:Str)(_es kn:List Str)(_ds:List Dr):List Str:=kn
theorem aTm:aQ ["self"] ["self"] (aB aCw):=xfs
theorem aGt {f CM:Addr}{fd:FuncData}(F:Fun K "rooms" "Machine.rooms" aCw f fd)(T:Txt K mg)(MC:lA K CM):aY P w K mg base CX0 1 f fd ["self"] (jV CM aMe):=by
 refine F.ok aTm (λvs H Q E h=>?_) (λcdv A outer s H vs Q E hr h=>?_)
 ·obtain⟨x,dd,b,es,kn,ds,rfl,_⟩:=h;rfl
 ·obtain⟨x,dd,b,es,kn,ds,rfl,⟨dx,l,e,k,kvs,g,M⟩,h64,q⟩:=h;refine⟨_,aL (bO (cC (iN rfl) (by rfl) T.sorted Bo.sorted (pac (eN (pv 0) rfl) aH))),?_⟩;exact⟨_,rfl,x,CM,dx,_,_,rfl,M.ins,MC.cl,MC.nl,by rfl,l,_,_,rfl,M.lead.dk,nC M.lead.keys,h64,λp ts' hp pm so=>q p ts' _ (smu hp) hp aD so pm⟩
theorem aTn:aQ ["self"] ["self"] (aB aLm):=xfs
theorem aKw {f CM:Addr}{fd:FuncData}(F:Fun K "ends" "Machine.ends" aLm f fd)(T:Txt K mg)(MC:lA K CM):aY P w K mg base CX0 1 f fd ["self"] (jV CM aQk):=by
 refine F.ok aTn (λvs H Q E h=>?_) (λcdv A outer s H vs Q E hr h=>?_)
 ·obtain⟨x,dd,b,es,kn,ds,rfl,_⟩:=h;rfl
 ·obtain⟨x,dd,b,es,kn,ds,rfl,⟨dx,l,e,k,kvs,g,M⟩,h64,q⟩:=h;refine⟨_,aL (bO (cC (iN rfl) (by rfl) T.sorted Bo.sorted (pac (eN (pv 0) rfl) aH))),?_⟩;exact⟨_,rfl,x,CM,dx,_,_,rfl,M.ins,MC.cl,MC.ne,by rfl,e,_,_,rfl,M.ends,nC rfl,h64,λp ts' hp pm so=>q p ts' _ (smu hp) hp aD so pm⟩
theorem aWl:aQ ["self"] ["self"] (aB aCx):=xfs
theorem aGu {f CM:Addr}{fd:FuncData}(F:Fun K "knows" "Machine.knows" aCx f fd)(T:Txt K mg)(MC:lA K CM):aY P w K mg base CX0 1 f fd ["self"] (jV CM aDl):=by
 refine F.ok aWl (λvs H Q E h=>?_) (λcdv A outer s H vs Q E hr h=>?_)
 ·obtain⟨x,dd,b,es,kn,ds,rfl,_⟩:=h;rfl
 ·obtain⟨x,dd,b,es,kn,ds,rfl,⟨dx,l,e,k,kvs,g,M⟩,h64,q⟩:=h;refine⟨_,aL (bO (cC (iN rfl) (by rfl) T.sorted Bo.sorted (pac (eN (pv 0) rfl) aH))),?_⟩;exact⟨_,rfl,x,CM,dx,_,_,rfl,M.ins,MC.cl,MC.nk,by rfl,k,_,_,rfl,M.know,nC rfl,h64,λp ts' hp pm so=>q p ts' _ (smu hp) hp aD so pm⟩
theorem aUg {CM:Addr}{H:Hp}{x dx l dd e k:Addr}{b:Str}{es kn:List Str}{ds:List Dr}{kvs:List (Key×V)}{g:Str->Addr}(M:MAt CM H x dx l dd e k b es kn ds kvs g){z:Str}(hz:z∈cH b es ds):dQ H l (.str z) (some (.ref (g z))):=by
 have gv:=dQ.k (k:=Sum.inr z) M.lead.dk;rw[M.lead.val z hz] at gv;exact gv
theorem aLb (ds:List Dr)(z y:Str):(dC (inn ds z) (Sum.inr y)).getD .non=oV (gT ds z y):=by rw[aOz]; rfl
theorem aWk:aQ ["self","room"] ["self","room"] (aB tU):=xfs
theorem aKt {f fN CM cR:Addr}{fd fdN:FuncData}(F:Fun K "require_room" "Machine.require_room" tU f fd)(T:Txt K mg)(MC:lA K CM)(mR:mg "NoRoom" = some (.ref cR))(xR:yC K cR)
  (FN:Fun K "is_name" "is_name" oP fN fdN)(bN:aW K fdN ["thing"] [])(mN:mg "is_name" = some (.ref fN)):aY P w K mg base (CXE P w) 2 f fd ["self","room"] (wT CM cR):=by
 have GN:aY P w K mg base CX0 1 fN fdN ["thing"] (sS K):=rZ FN T;refine okE F aWk (λvs H Q E h=>?_) (λcdv A outer s H vs Q E hr h D=>?_)
 ·obtain⟨x,dd,b,z,es,kn,ds,rfl,_⟩:=h;rfl
 ·obtain⟨x,dd,b,z,es,kn,ds,rfl,⟨dx,l,e,k,kvs,g,M⟩,hz,q1,q2⟩:=h;have hu:=iI hr;refine⟨_,aL (dR (rD (kG (kE (bV GN hr (by rfl) mN FN.kp bN .nil cA (pac (pv 1) aH)))) (qE (qF (qH hu (pv 1) (eN (pv 0) rfl))))).pt (aL (iH D rfl (by rfl) mR xR (pac aS aH))) cG),?_⟩;refine⟨_,rfl,.str z,rfl,.inl ⟨z,rfl,xDw (aR hz),λH2 s2=>⟨_,rfl,?_⟩⟩⟩
  by_cases hn:aZ z=true
  ·rw[hn];refine gP ⟨_,rfl,_,rfl,x,CM,dx,_,_,rfl,s2 _ _ M.ins,MC.cl,MC.nl,by rfl,l,_,rfl,dQ.k (k:=Sum.inr z) (s2 _ _ M.lead.dk),_,rfl,?_⟩;rw[qS M.lead.keys z]
   by_cases hm:z∈cH b es ds
   ·rw[xAv hm];exact gP (q1 ⟨hn,hm⟩ H2 s2)
   ·rw[xBj hm];exact jR ⟨by show 1<=sizeLine; decide,q2 (λg=>hm g.2) H2 s2⟩
  ·rw[xCs.mpr hn];exact jR ⟨by show 1<=sizeLine; decide,q2 (λg=>hn g.1) H2 s2⟩
theorem aWn:aQ ["self","room"] ["self","room"] (aB aCy):=xfs
theorem aCj {f fR CM cR:Addr}{fd fdR:FuncData}(F:Fun K "is_end" "Machine.is_end" aCy f fd)(MC:lA K CM)
  (GR:aY P w K mg base (CXE P w) 2 fR fdR ["self","room"] (wT CM cR))(bR:aW K fdR ["self","room"] [])(mR:fV K CM "require_room" fR):aY P w K mg base (CXE P w) 3 f fd ["self","room"] (vP CM cR):=by
 refine okE F aWn (λvs H Q E h=>?_) (λcdv A outer s H vs Q E hr h D=>?_)
 ·obtain⟨x,dd,b,z,es,kn,ds,rfl,_⟩:=h;rfl
 ·obtain⟨x,dd,b,z,es,kn,ds,rfl,⟨dx,l,e,k,kvs,g,M⟩,hz,q1,q2⟩:=h;have hu:=iI hr;refine⟨_,aK (cW (eA (pv 0) MC.cl mR GR hr bR .nil (D.passes λ_ _ _ z=>z) (pac (pv 1) aH))) (aL (bO (aKg (tO hu (pv 1) (eN (pv 0) rfl))))),?_⟩;refine⟨_,rfl,x,dx,_,rfl,M.ins,dP _ _ _ _ _ _ (by decide),_,rfl,x,dd,b,z,es,kn,ds,rfl,⟨dx,l,e,k,kvs,g,M⟩,hz,λgood H2 s2=>?_,λbad H2 s2=>q2 bad H2 s2⟩;have M2:=M.same s2;refine⟨_,rfl,_,rfl,x,CM,dx,_,_,rfl,M2.ins,MC.cl,MC.ne,by rfl,e,_,rfl,dQ.k (k:=Sum.inr z) M2.ends,?_⟩;rw[qS rfl z];exact q1 good H2 s2
theorem aWj:aQ ["self","room","deed"] ["self","room","deed"] (aB mTo):=xfs
theorem aOm {f fR fQ C CM cR:Addr}{fd fdR fdQ:FuncData}{cl:Why->Addr}(F:Fun K "to" "Machine.to" mTo f fd)(T:Txt K mg)(DC:aDr K C)(MC:lA K CM)
  (GR:aY P w K mg base (CXE P w) 2 fR fdR ["self","room"] (wT CM cR))(bR:aW K fdR ["self","room"] [])(mR:fV K CM "require_room" fR)
  (GQ:aY P w K mg base (CXE P w) 3 fQ fdQ ["self","row"] (jP K C cl))(bQ:aW K fdQ ["self","row"] [])(mQ:fV K C "require" fQ):aY P w K mg base (CXE P w) 4 f fd ["self","room","deed"] (aJa C CM cR (cl .noDeed)):=by
 refine okE F aWj (λvs H Q E h=>?_) (λcdv A outer s H vs Q E hr h D=>?_)
 ·obtain⟨x,dd,b,z,y,es,kn,ds,wk,rfl,_⟩:=h;rfl
 ·obtain⟨x,dd,b,z,y,es,kn,ds,wk,rfl,⟨dx,l,e,k,kvs,g,M⟩,hz,hW,hy,q1,q2,q3⟩:=h;have hu:=iI hr;have hr2:cL 2 _:=hr.mono (by decide)
  refine⟨_,aK (cW (eA (pv 0) MC.cl mR GR hr2 bR .nil (D.passes λ_ _ _ z=>z) (pac (pv 1) aH)))
   (aK (cW (eA (eN (pv 0) rfl) DC.cl mQ GQ hr bQ .nil (D.passes λ_ _ _ z=>z) (pac (cM (pac (pv 2) aH)) aH)))
   (aL (bO (tN hu (eB hu (eN (pv 0) rfl) (pv 1) (λ_ _=>rfl)) (pv 2) ⟨by rfl,by rfl,by rfl,by rfl⟩)))),?_⟩
  refine⟨_,rfl,x,dx,_,rfl,M.ins,dP _ _ _ _ _ _ (by decide),_,rfl,x,dd,b,z,es,kn,ds,rfl,⟨dx,l,e,k,kvs,g,M⟩,hz,λgood H2 s2=>?_,λbad H2 s2=>q3 bad H2 s2⟩;have M2:=M.same s2;obtain⟨wx,wf,ww,wo,hw0,hw1,hw2,hw3⟩:=hW;refine⟨_,rfl,x,CM,dx,_,_,rfl,M2.ins,MC.cl,MC.nd,by rfl,dd,wx,wf,rfl,s2 _ _ hw0,hw1 "require" (by decide),_,rfl,by show 1<=sizeLine; decide,λp hp=>?_⟩;have s3:=s2.trans (smu (o:=.lst [y]) hp);refine⟨dd,p,_,wk,rfl,SqL.of aD,λv hv=>?_,⟨wx,wf,ww,wo,s3 _ _ hw0,hw1,hw2,s3 _ _ hw3⟩,λH4 s4=>?_⟩
  ·rw[xBb.mp hv];exact hy
  ·have e1:([y]:List V).all (dM wk)=dM wk y:=by rw[xGy,List.all_nil,xJl]
   rw[e1]
   by_cases hg:dM wk y=true
   ·rw[xBe hg]
    obtain⟨u,rfl⟩:∃ u,y=.str u:=by
     cases y with
     | str u=>exact⟨u,rfl⟩
     | _=>cases hg
    have M4:=M.same (s3.trans s4);refine⟨_,rfl,x,CM,dx,_,_,rfl,M4.ins,MC.cl,MC.nl,by rfl,_,rfl,l,_,rfl,aUg M4 good.2,g z,rfl,?_,_,rfl,_,dQ.k (k:=Sum.inr u) (M4.lead.dd z good.2),?_⟩
    ·exact .inl ⟨_,.inl (M4.lead.dd z good.2)⟩
    ·rw[aLb];exact q1 good hg u H4 rfl (s3.trans s4)
   ·rw[xAy hg];exact q2 good (xCs.mpr hg) H4 (s3.trans s4)
end
end K23
namespace K23
open PySem L2 Ky PySem.W
seal L2.PE L2.PS L2.PSs L2.PA L2.PT L2.PW L2.PG L2.PI L2.PTs L2.PO L2.PPs L2.OpR L2.IxR L2.CallR L2.MtM L2.MtR
theorem pO {c:Int}{kn rs nm:List Str}{n i k:Nat}{x:Dr}(h:dr c kn rs nm n i k=some x):rs[i]?=some x.1/\nm[k]?=some x.2.1/\x.2.1∈kn/\x.2.2=rs.getD (drw c i k/3%n).toNat "":=by
 unfold dr at h;split at h
 ·rename_i r d hr hd
  by_cases q:(decide (d∈kn)&&decide (drw c i k%3>0))=true
  ·rw[xBe q] at h;cases h;exact⟨hr,hd,xAp (xEc.mp q).1,rfl⟩
  ·rw[xAy q] at h;cases h
 ·cases h
theorem tG (c:Int)(k:Nat):∃ T:List Str,T.length=5/\T.all aZ=true/\T.Nodup/\∀ j:Nat,T[((c/5+j)%5).toNat]?=some (gD c j):=by
 have g:=cK c (m:=5) (by decide);have t:=aPw (c%5).toNat (by omega);refine⟨tabs.getD (c%5).toNat [],t.1,t.2.1,t.2.2,λj=>?_⟩;have g':=cK (c/5+(j:Int)) (m:=5) (by decide);unfold gD;generalize tabs.getD (c%5).toNat []=T at t ⊢;rw[xCk,xAh (by rw[t.1]; omega)];rfl
theorem zC (c:Int)(k:Nat):aZ (gD c k)=true:=by
 obtain⟨T,_,h2,_,h4⟩:=tG c k;exact xBn.mp h2 _ (xAu (h4 k))
theorem xE {c:Int}{n:Nat}:∀ z∈bX c n,aZ z=true:=λz hz=>by
 obtain⟨k,_,rfl⟩:=xBc.mp hz;exact zC c k
theorem uU (c:Int){n:Nat}(hn:n<=5):(bX c n).Nodup:=by
 obtain⟨T,h1,_,h3,h4⟩:=tG c 0;unfold bX;refine xEf.mpr (xFe (λ{i j} hi hj hlt e=>?_) (xHc (n:=n)));have hi':=xDm.mp hi;have hj':=xDm.mp hj;have g1:=cK (c/5+(i:Int)) (m:=5) (by decide);have g2:=cK (c/5+(j:Int)) (m:=5) (by decide)
 have:=(xFl (i:=((c/5+i)%5).toNat) (j:=((c/5+j)%5).toNat) (by rw[h1]; omega) h3).mp (by rw[h4,h4,e])
 omega
theorem aBy {c:Int}{n i:Nat}(h:i<n):gD c i∈bX c n:=xBc.mpr ⟨i,xDm.mpr h,rfl⟩
theorem aMp {c:Int}{kn rs nm:List Str}{n i:Nat}{x:Dr}(hn:rs.length=n)(h1:1<=n)(h:x∈oE c kn rs nm n i):x.1∈rs/\x.2.1∈nm/\x.2.2∈rs:=by
 obtain⟨a,_,hx⟩:=xDe.mp h;obtain⟨k,_,e⟩:=xBz.mp hx;obtain⟨e1,e2,_,e3⟩:=pO e;refine⟨xAu e1,xAu e2,?_⟩;have g:=cK (drw c a k/3) (m:=(n:Int)) (by omega);rw[e3,xCk,xAh (by omega)];exact xCt _
theorem aDp {c:Int}{kn rs nm:List Str}{n i:Nat}(hr:rs.Nodup)(hm:nm.Nodup):Apart (oE c kn rs nm n i):=by
 refine xEf.mpr (xJy.mpr ⟨λa _=>?_,?_⟩)
 ·refine List.pairwise_filterMap.mpr (xGu (λ{k k'} hlt x hx y hy e=>?_) (xHc (n:=nm.length)));obtain⟨_,e2,_⟩:=pO hx;obtain⟨_,f2,_⟩:=pO hy
  have:=(xFl (i:=k) (j:=k') (xAc.mp e2).1 hm).mp (by rw[e2,f2,(Prod.mk.inj e).2])
  omega
 ·refine xGu (λ{a a'} hlt x hx y hy e=>?_) (xHc (n:=i));obtain⟨k,_,hx⟩:=xBz.mp hx;obtain⟨k',_,hy⟩:=xBz.mp hy;obtain⟨e1,_⟩:=pO hx;obtain⟨f1,_⟩:=pO hy
  have:=(xFl (i:=a) (j:=a') (xAc.mp e1).1 hr).mp (by rw[e1,f1,(Prod.mk.inj e).1])
  omega
structure aFk (c:Int)(n:Nat)(ss:List Str):Prop where
 le:(iB c n).length<=200/\(dB c ss n).length<=200/\(jK c ss).length<=200
 nm:(cH (gD c 0) (iB c n) (dB c ss n)).all aZ=true
 ap:Apart (dB c ss n)
 dd:∀ x∈dB c ss n,x.2.1∈ss
 kn:∀ z∈dJ (dB c ss n) (jK c ss),z∈ss
 rb:∀ z∈cH (gD c 0) (iB c n) (dB c ss n),z∈bX c n
 sm:(iB c n).length<=5/\(dB c ss n).length<=60/\(jK c ss).length<=12
theorem aAp {c:Int}{n:Nat}{ss:List Str}{x:Dr}(h:x∈dB c ss n):x∈oE c (cX c ss) (bX c n) ss n n:=by
 unfold dB at h;dsimp only at h;split at h
 ·exact List.mem_reverse.mp h
 ·exact h
theorem aTr {c:Int}{n:Nat}{ss:List Str}(h1:1<=n)(h5:n<=5)(hs:ss.length<=12)(hd:ss.Nodup):aFk c n ss:=by
 have mem:=λ(x:Dr) (h:x∈dB c ss n)=>aMp (eI c n) h1 (aAp h)
 have rm:∀ z∈cH (gD c 0) (iB c n) (dB c ss n),z∈bX c n:=λz hz=>by
  rcases xCp.mp hz with hz | hz
  ·rcases xAo.mp hz with rfl | hz
   ·exact aBy (by omega)
   ·exact zJ z hz
  ·obtain⟨x,hx,hz⟩:=xDe.mp hz;rcases xAo.mp hz with rfl | hz
   ·exact (mem x hx).1
   ·rw[xBb.mp hz]; exact (mem x hx).2.2
 have dl:(dB c ss n).length<=60:=by
  have a1:=uM c (cX c ss) (bX c n) ss n n;have a3:ss.length*n<=12*5:=Nat.mul_le_mul hs h5;unfold dB;dsimp only;split
  ·rw[xFb]; omega
  ·omega
 have el:(iB c n).length<=5:=xAr (lK ..) (by omega);have ml:(jK c ss).length<=12:=xAr (lK ..) (by omega);refine⟨⟨by omega,by omega,by omega⟩,xBn.mpr λz hz=>xE z (rm z hz),?_,λx hx=>(mem x hx).2.1,λz hz=>?_,rm,el,dl,ml⟩
 ·have ap:Apart (oE c (cX c ss) (bX c n) ss n n):=aDp (uU c h5) hd;unfold dB;dsimp only;split
  ·unfold Ky.Apart at ap ⊢;rw[List.map_reverse];exact List.pairwise_reverse.mpr (xGu (λh=>Ne.symm h) ap)
  ·exact ap
 ·rcases xCp.mp hz with hz | hz
  ·obtain⟨x,hx,rfl⟩:=xBc.mp hz;exact (mem x hx).2.1
  ·exact zJ z hz
end K23
namespace K23
open PySem L2 Ky PySem.W
seal L2.PE L2.PS L2.PSs L2.PA L2.PT L2.PW L2.PG L2.PI L2.PTs L2.PO L2.PPs L2.OpR L2.IxR L2.CallR L2.MtM L2.MtR
unseal L2.MtM L2.MtR
structure MW where
 b:Str
 es:List Str
 kn:List Str
 ds:List Dr
abbrev MW.rs (m:MW):List Str:=cH m.b m.es m.ds
def parts (ms:List MW)(room:List Str)(y:Str):List (Option Str):=List.zipWith (λm z=>nJ m.ds m.kn z y) ms room
def aBe (ms:List MW)(room:List Str)(y:Str):Option (List Str):=if (parts ms room y).any (λo=>o.isNone)=true then none else some ((parts ms room y).map λo=>o.getD "")
def wkn (ms:List MW):List Str:=ms.flatMap (·.kn)
def wto (ms:List MW)(room:List Str)(y:Str):Option (List Str):=if y∈wkn ms then aBe ms room y else none
def iX (ms:List MW)(room:List Str):Bool:=(List.zipWith (λm z=>decide (z∈m.es)) ms room).all id
structure ROk (ms:List MW)(room:List Str):Prop where
 len:ms.length=room.length
 mem:∀ (i:Nat) (m:MW) (z:Str),ms[i]?=some m->room[i]?=some z->aZ z=true/\z∈m.rs
structure mJ (CM:Addr)(H:Hp)(x p:Addr)(ms:List MW):Prop where
 ex:∃ Xs:List Addr,H p=some (.lst (Xs.map V.ref))/\Xs.length=ms.length/\∀ (i:Nat) (X:Addr) (m:MW),Xs[i]?=some X->ms[i]?=some m->MM CM H X x m.b m.es m.kn m.ds
theorem mJ.same {CM:Addr}{H H':Hp}{x p:Addr}{ms:List MW}(M:mJ CM H x p ms)(sm:aO H H'):mJ CM H' x p ms:=by
 obtain⟨Xs,h0,h1,h2⟩:=M.ex;exact⟨Xs,sm _ _ h0,h1,λi X m a b=>(h2 i X m a b).same sm⟩
def aAz (H:Hp)(Q:VK):Option (List Str)->Prop
 | none=>∀ H',aO H H'->Q .non H'
 | some ss=>∀ (l:Addr) H',aO H H'->H l=none->H' l=some (.tup (ss.map V.str))->Q (.ref l) H'
inductive vS (CM:Addr)(vs:List V)(H:Hp)(Q:VK)(E:XK):Prop
 | mk (x p:Addr)(ms:List MW)(h0_:vs=[.ref p])(h1_:mJ CM H x p ms)(h2_:ms.length<=100)(h3_:aAz H Q (some (ms.map (·.b))))
inductive aEe (K:xAd)(CM:Addr)(vs:List V)(H:Hp)(Q:VK)(E:XK):Prop
 | mk (x p t:Addr)(ms:List MW)(room:List Str)(y:Str)(h0_:vs=[.ref p,.ref t,.str y])(h1_:mJ CM H x p ms)(h2_:SqT K H t (room.map V.str))(h3_:ROk ms room)(h4_:ms.length<=100)(h5_:aAz H Q (aBe ms room y))
inductive vT (K:xAd)(CM:Addr)(vs:List V)(H:Hp)(Q:VK)(E:XK):Prop
 | mk (x p t:Addr)(ms:List MW)(room:List Str)(h0_:vs=[.ref p,.ref t])(h1_:mJ CM H x p ms)(h2_:SqT K H t (room.map V.str))(h3_:ROk ms room)(h4_:ms.length<=100)(h5_:∀ H',aO H H'->Q (.bl (iX ms room)) H')
inductive vQ (CM:Addr)(vs:List V)(H:Hp)(Q:VK)(E:XK):Prop
 | mk (x p:Addr)(ms:List MW)(N:List Str)(h0_:vs=[.ref p])(h1_:mJ CM H x p ms)(h2_:ms.length<=10)(h3_:∀ m∈ms,∀ z∈m.kn,z∈N)(h4_:N.length<64)
  (h5_:∀ (l:Addr) (kn:List Str) H',aO H H'->H l=none->(∀ z,z∈kn↔z∈wkn ms)->H' l=some (.dK (mks kn []))->Q (.ref l) H')
theorem lB {α β γ:Type}{f:α->β->γ}:∀ {as:List α}{bs:List β}{i:Nat}{a:α}{b:β},as[i]?=some a->bs[i]?=some b->List.zipWith f (as.take (i+1)) (bs.take (i+1))=List.zipWith f (as.take i) (bs.take i)++[f a b]
 | [],_,_,_,_,h,_=>by simp at h
 | _::_,[],_,_,_,_,h=>by simp at h
 | a'::as,b'::bs,0,a,b,h1,h2=>by
  have e1:a'=a:=by simpa using h1
  have e2:b'=b:=by simpa using h2
  rw[e1,e2]
  simp
 | a'::as,b'::bs,i+1,a,b,h1,h2=>by
  have:=lB (f:=f) (as:=as) (bs:=bs) (i:=i) (a:=a) (b:=b) (by simpa using h1) (by simpa using h2)
  simp only[List.take_succ_cons,List.zipWith_cons_cons,List.cons_append] at this ⊢;rw[this]
section
variable {P:Program}{w:World}{K:xAd}{mg:xSO}{base:Heap}
theorem aWm:aQ ["self","room","deed"] ["self","room","deed"] (aB aLl):=xfs
theorem aKv {f CM:Addr}{fd:FuncData}(F:Fun K "goes" "Machine.goes" aLl f fd)(MC:lA K CM):aY P w K mg base CX0 1 f fd ["self","room","deed"] (aEb CM):=by
 refine F.ok aWm (λvs H Q E h=>?_) (λcdv A outer s H vs Q E hr h=>?_)
 ·obtain⟨x,dd,b,z,y,es,kn,ds,rfl,_⟩:=h;rfl
 ·obtain⟨x,dd,b,z,y,es,kn,ds,rfl,⟨dx,l,e,k,kvs,g,M⟩,hz,q⟩:=h;have hu:=iI hr
  refine⟨_,aK (dR (qF (tO hu (pv 2) (eN (pv 0) rfl))) (aL (bO (tN hu (eB hu (eN (pv 0) rfl) (pv 1) (λ_ _=>rfl)) (pv 2) ⟨by rfl,by rfl,by rfl,by rfl⟩))) cG)
   (aL (bO (pv 1))),?_⟩
  refine⟨_,rfl,_,rfl,x,CM,dx,_,_,rfl,M.ins,MC.cl,MC.nk,by rfl,k,_,rfl,dQ.k (k:=Sum.inr y) M.know,_,rfl,?_⟩;rw[qO];unfold nJ at q
  by_cases hy:y∈kn
  ·rw[xBe hy] at q;rw[xAv hy,Bool.true_or];refine jR ⟨_,rfl,x,CM,dx,_,_,rfl,M.ins,MC.cl,MC.nl,by rfl,_,rfl,l,_,rfl,aUg M hz,g z,rfl,?_,_,rfl,_,dQ.k (k:=Sum.inr y) (M.lead.dd z hz),?_⟩
   ·exact .inl ⟨_,.inl (M.lead.dd z hz)⟩
   ·rw[aLb];exact q
  ·rw[xAy hy] at q;rw[xBj hy];exact gP ⟨_,rfl,q⟩
theorem lF {K:xAd}{H H':Hp}{a:Addr}{xs:List V}(h:SqT K H a xs)(e:aO H H'):SqT K H' a xs:=by
 rcases h with (h | ⟨o,h⟩) | h
 ·exact .inl (.inl (e _ _ h))
 ·exact .inl (.inr ⟨o,e _ _ h⟩)
 ·exact .inr h
theorem aLc:∀ {os:List (Option Str)},os.any (λo=>o.isNone)=false->os.map oV=(os.map λo=>o.getD "").map V.str
 | [],_=>rfl
 | none::_,h=>by simp at h
 | some z::os,h=>by
  rw[xCd,xCd,xCd,aLc (by simpa using h)];rfl
theorem aWr:aQ ["machines"] ["machines"] (aB oT):=xfs
abbrev nd1:List Str:=["machine"]
theorem aCm {f fB CM:Addr}{fd fdB:FuncData}(F:Fun K "begin_of" "begin_of" oT f fd)(mT:mg "tuple" = none)(MC:lA K CM)
  (GB:aY P w K mg base CX0 1 fB fdB ["self"] (sW CM))(bB:aW K fdB ["self"] [])(mB:fV K CM "begin" fB):aY P w K mg base CX0 2 f fd ["machines"] (vS CM):=by
 refine F.ok aWr (λvs H Q E h=>?_) (λcdv A outer s H vs Q E hr h=>?_)
 ·obtain⟨x,p,ms,rfl,_⟩:=h;rfl
 ·obtain⟨x,p,ms,rfl,M,hl,q⟩:=h
  refine⟨_,aL (bO (eG iE (by rfl) mT Bo.tuple (pac (dW (N':=nd1) (nown:=1) (js:=[]) rfl
     xbs (cF (aB oT) ["machines"] rfl rfl (by decide +kernel))
     ⟨λ_ _ _ _=>aP (i:=0) (show List.Nodup nd1 by decide +kernel) rfl (xAx rfl) (.inr rfl),λ_ _ _ _=>dU,λ_ _ _ _=>dS (pv 0) MC.cl mB GB hr bB .nil cA⟩
     (cS (pv 0))) aH))),?_⟩
  obtain⟨Xs,h0,h1,h2⟩:=M.ex;refine⟨_,rfl,p,rfl,⟨_,SqL.of h0⟩,λD hD=>gH (xs:=Xs.map V.ref) (λi Z' H'=>∃ v,Z'=[v]/\H' D=some (.lst (((ms.take i).map (·.b)).map V.str))/\aO H H') ?_ ?_ ?_ ?_⟩
  ·exact⟨none,rfl,aD,smu hD⟩
  ·rintro i Z' H' _ ⟨v,rfl,a1,a2⟩;exact SqL.of (a2 _ _ h0)
  ·rintro i v Z' H' hv ⟨v0,rfl,a1,a2⟩;rw[xAg] at hv;cases hX:Xs[i]? with
   | none=>rw[hX] at hv; cases hv
   | some X=>
    rw[hX] at hv;cases hv;have hi:i<ms.length:=by rw[<- h1]; exact (xAc.mp hX).1
    have hm:=xAh hi;generalize ms[i]=m at hm;have MX:=(h2 i X m hX hm).same a2;obtain⟨dx,l,e,k,kvs,g,M0⟩:=MX;refine⟨_,rfl,X,dx,_,rfl,M0.ins,dP _ _ _ _ _ _ (by decide),X,x,m.b,m.es,m.kn,m.ds,rfl,⟨dx,l,e,k,kvs,g,M0⟩,_,a1,aR (by rw[xAa,xAa,xAt]; omega),_,rfl,?_,λb o z=>?_⟩
    ·rw[aD,xBl,hm]
     simp
    ·rw[aG (aF z hD)];exact a2 b o z
  ·rintro Z' H' ⟨v,rfl,a1,a2⟩;rw[xAa,h1,xBa] at a1;exact⟨D,_,rfl,.inl ⟨SqL.of a1,λl hl'=>q l _ (a2.trans (smu hl')) (a2.free hl') aD⟩⟩
abbrev NFO:List Str:=["machines","room","deed","parts"]
theorem aTo:aQ NFO ["machines","room","deed"] (aB xB):=xfs
abbrev ndf:List Str:=["machine","part","deed"]
theorem aKy {f fG CM:Addr}{fd fdG:FuncData}(F:Fun K "far_of" "far_of" xB f fd)(mT:mg "tuple" = none)(mZ:mg "zip" = none)(MC:lA K CM)
  (GG:aY P w K mg base CX0 1 fG fdG ["self","room","deed"] (aEb CM))(bG:aW K fdG ["self","room","deed"] [])(mG:fV K CM "goes" fG):aY P w K mg base CX0 2 f fd ["machines","room","deed"] (aEe K CM):=by
 refine F.ok aTo (λvs H Q E h=>?_) (λcdv A outer s H vs Q E hr h=>?_)
 ·obtain⟨x,p,t,ms,room,y,rfl,_⟩:=h;rfl
 ·obtain⟨x,p,t,ms,room,y,rfl,M,hT,R,hl,q⟩:=h
  refine⟨_,aK (fZ (i:=3) (N':=ndf) (nown:=2) (js:=[2]) rfl aTo.nd rfl rfl rfl
     xbs (cF (aB xB) NFO rfl rfl (by decide +kernel))
     ⟨λ_ _ _ _=>show PG _ _ (uX K 2 (gC (eK 0) (gC (eK 1) uY))) from eC rfl (aU (aP (i:=0) (show List.Nodup ndf by decide +kernel) rfl (xAx rfl) (.inr rfl)) (aU (aP (i:=1) (show List.Nodup ndf by decide +kernel) rfl (xAx rfl) (.inr rfl)) dG)),
      λ_ _ _ _=>dU,λ_ _ _ _=>eA (pv 0) MC.cl mG GG hr bG .nil cA (pac (pv 1) (pac (pv 2) aH))⟩
     (zK rfl mZ (pac (pv 0) (pac (pv 1) aH))))
   (aL (bO (zO (cB aRn jJ (pv 3) (by with_unfolding_all rfl)) jJ (eG iE (by rfl) mT Bo.tuple (pac (pv 3) aH))))),?_⟩
  obtain⟨Xs,h0,h1,h2⟩:=M.ex;refine⟨_,rfl,_,rfl,p,t,rfl,⟨_,SqL.of h0⟩,⟨_,hT⟩,λD hD=>xZ (xs:=Xs.map V.ref) (ys:=room.map V.str) (λi Z' H'=>∃ v0 v1,Z'=[v0,v1,some (.str y)]/\H' D=some (.lst ((parts (ms.take i) (room.take i) y).map oV))/\aO H H') ?_ ?_ ?_ ?_ ?_⟩
  ·exact⟨none,none,rfl,aD,smu hD⟩
  ·rw[xAa,xAa,h1,R.len]
  ·rintro i Z' H' _ ⟨v0,v1,rfl,a1,a2⟩;exact⟨SqL.of (a2 _ _ h0),lF hT a2⟩
  ·rintro i v1 v2 Z' H' tt hv1 hv2 ⟨w0,w1,rfl,a1,a2⟩ htt;rw[xAg] at hv1 hv2;cases hX:Xs[i]? with
   | none=>rw[hX] at hv1; cases hv1
   | some X=>
    cases hzz:room[i]? with
    | none=>rw[hzz] at hv2; cases hv2
    | some z=>
     rw[hX] at hv1;rw[hzz] at hv2;cases hv1;cases hv2;have hi:i<ms.length:=by rw[<- h1]; exact (xAc.mp hX).1
     have hm:=xAh hi;generalize ms[i]=m at hm;have s3:=a2.trans (smu (o:=.tup [.ref X,.str z]) htt);have a1':(upd H' tt (.tup [.ref X,.str z])) D=some (.lst ((parts (ms.take i) (room.take i) y).map oV)):=smu htt _ _ a1;have eT:(upd H' tt (.tup [.ref X,.str z])) tt=some (.tup [.ref X,.str z]):=aD;generalize upd H' tt (.tup [.ref X,.str z])=H3 at s3 a1' eT ⊢;obtain⟨dx,l,e,k,kvs,g,M0⟩:=(h2 i X m hX hm).same s3;refine⟨tt,_,rfl,SqT.of eT,rfl,_,_,rfl,_,_,rfl,rfl,_,rfl,X,dx,_,rfl,M0.ins,dP _ _ _ _ _ _ (by decide),_,rfl,_,rfl,X,x,m.b,z,y,m.es,m.kn,m.ds,rfl,⟨dx,l,e,k,kvs,g,M0⟩,(R.mem i m z hm hzz).2,_,a1',aR ?_,_,_,rfl,?_,λb o u=>?_⟩
     ·rw[xAa];unfold parts;rw[xEl,xAt];omega
     ·rw[aD];unfold parts;rw[lB hm hzz,xAn];rfl
     ·rw[aG (aF u hD)];exact s3 b o u
  ·rintro Z' H' ⟨v0,v1,rfl,a1,a2⟩;have e1:ms.take (Xs.map V.ref).length=ms:=by rw[xAa,h1,xBa]
   have e2:room.take (Xs.map V.ref).length=room:=by rw[xAa,h1,R.len,xBa]
   rw[e1,e2] at a1;unfold aBe at q;refine⟨_,rfl,D,parts ms room y,rfl,rfl,SqL.of a1,_,rfl,fU (λhn=>?_) (λhn=>?_)⟩
   ·rw[xBe hn] at q;exact q H' a2
   ·rw[xAy hn] at q;refine⟨_,rfl,D,_,rfl,.inl ⟨SqL.of a1,λl hl'=>q l _ (a2.trans (smu hl')) (a2.free hl') ?_⟩⟩;rw[aD,aLc (xCs.mpr hn)]
theorem nM {P:Program}{w:World}{X:Cx}:gF (CXE P w) X E0:=by
 rintro pins Z H s e s' I ⟨_,_,_,_,_,_,_,_,_,_,_,_,_,_,_,_,_,h⟩;exact h.elim
theorem sH {ms:List MW}{i:Nat}{m:MW}(h:ms[i]?=some m)(z:Str):z∈wkn (ms.take (i+1))↔z∈wkn (ms.take i)\/z∈m.kn:=by
 unfold wkn;rw[xBl,h]
 simp
theorem aWs:aQ ["machines","room"] ["machines","room"] (aB oU):=xfs
abbrev nda:List Str:=["machine","part"]
theorem aCn {f fE CM cR:Addr}{fd fdE:FuncData}(F:Fun K "all_at_ends" "all_at_ends" oU f fd)(T:Txt K mg)(mZ:mg "zip" = none)(MC:lA K CM)
  (GE:aY P w K mg base (CXE P w) 3 fE fdE ["self","room"] (vP CM cR))(bE:aW K fdE ["self","room"] [])(mE:fV K CM "is_end" fE):aY P w K mg base CX0 4 f fd ["machines","room"] (vT K CM):=by
 refine F.ok aWs (λvs H Q E h=>?_) (λcdv A outer s H vs Q E hr h=>?_)
 ·obtain⟨x,p,t,ms,room,rfl,_⟩:=h;rfl
 ·obtain⟨x,p,t,ms,room,rfl,M,hT,R,hl,q⟩:=h
  refine⟨_,aL (bO (cC (qY rfl) (by rfl) T.all Bo.all (pac (dW (N':=nda) (nown:=2) (js:=[]) rfl
     xbs (cF (aB oU) ["machines","room"] rfl rfl (by decide +kernel))
     ⟨λ_ _ _ _=>show PG _ _ (uX K 2 (gC (eK 0) (gC (eK 1) uY))) from eC rfl (aU (aP (i:=0) (show List.Nodup nda by decide +kernel) rfl (xAx rfl) (.inr rfl)) (aU (aP (i:=1) (show List.Nodup nda by decide +kernel) rfl (xAx rfl) (.inr rfl)) dG)),
      λ_ _ _ _=>dU,λ_ _ _ _=>eA (pv 0) MC.cl mE GE hr bE .nil nM (pac (pv 1) aH)⟩
     (zK rfl mZ (pac (pv 0) (pac (pv 1) aH)))) aH))),?_⟩
  obtain⟨Xs,h0,h1,h2⟩:=M.ex;refine⟨_,rfl,_,rfl,p,t,rfl,⟨_,SqL.of h0⟩,⟨_,hT⟩,λD hD=>xZ (xs:=Xs.map V.ref) (ys:=room.map V.str) (λi Z' H'=>∃ v0 v1,Z'=[v0,v1]/\H' D=some (.lst ((List.zipWith (λm z=>decide (z∈MW.es m)) (ms.take i) (room.take i)).map V.bl))/\aO H H') ?_ ?_ ?_ ?_ ?_⟩
  ·exact⟨none,none,rfl,aD,smu hD⟩
  ·rw[xAa,xAa,h1,R.len]
  ·rintro i Z' H' _ ⟨v0,v1,rfl,a1,a2⟩;exact⟨SqL.of (a2 _ _ h0),lF hT a2⟩
  ·rintro i v1 v2 Z' H' tt hv1 hv2 ⟨w0,w1,rfl,a1,a2⟩ htt;rw[xAg] at hv1 hv2;cases hX:Xs[i]? with
   | none=>rw[hX] at hv1; cases hv1
   | some X=>
    cases hzz:room[i]? with
    | none=>rw[hzz] at hv2; cases hv2
    | some z=>
     rw[hX] at hv1;rw[hzz] at hv2;cases hv1;cases hv2;have hi:i<ms.length:=by rw[<- h1]; exact (xAc.mp hX).1
     have hm:=xAh hi;generalize ms[i]=m at hm;have s3:=a2.trans (smu (o:=.tup [.ref X,.str z]) htt);have a1':=smu (o:=.tup [.ref X,.str z]) htt _ _ a1;have eT:(upd H' tt (.tup [.ref X,.str z])) tt=some (.tup [.ref X,.str z]):=aD;generalize upd H' tt (.tup [.ref X,.str z])=H3 at s3 a1' eT ⊢;obtain⟨dx,l,e,k,kvs,g,M0⟩:=(h2 i X m hX hm).same s3;have gd:=R.mem i m z hm hzz;refine⟨tt,_,rfl,SqT.of eT,rfl,_,_,rfl,_,_,rfl,rfl,_,rfl,X,dx,_,rfl,M0.ins,dP _ _ _ _ _ _ (by decide),_,rfl,X,x,m.b,z,m.es,m.kn,m.ds,rfl,⟨dx,l,e,k,kvs,g,M0⟩,xAr (lP gd.1) (by decide),λ_ H4 s4=>?_,λbad=>xBg gd bad⟩;refine⟨_,s4 _ _ a1',aR ?_,_,_,rfl,?_,λb o u=>?_⟩
     ·rw[xAa,xEl,xAt];omega
     ·rw[aD,lB hm hzz,xAn];rfl
     ·rw[aG (aF u hD)];exact s4 _ _ (s3 b o u)
  ·rintro Z' H' ⟨v0,v1,rfl,a1,a2⟩;have e1:ms.take (Xs.map V.ref).length=ms:=by rw[xAa,h1,xBa]
   have e2:room.take (Xs.map V.ref).length=room:=by rw[xAa,h1,R.len,xBa]
   rw[e1,e2] at a1;exact⟨D,_,rfl,SqL.of a1,q H' a2⟩
abbrev NKO:List Str:=["machines","known","machine"]
theorem aRd:aQ NKO ["machines"] (aB tF):=xfs
theorem aCk {f fKn fMk CM:Addr}{fd fdKn fdMk:FuncData}(F:Fun K "known_of" "known_of" tF f fd)(MC:lA K CM)
  (GKn:aY P w K mg base CX0 1 fKn fdKn ["self"] (jV CM aDl))(bKn:aW K fdKn ["self"] [])(mKn:fV K CM "knows" fKn)
  (GMk:aY P w K mg base CX0 1 fMk fdMk ["names"] (rX K))(kMk:keepIn K (.ref fMk)=true)(bMk:aW K fdMk ["names"] [])(mMk:mg "marks_of" = some (.ref fMk)):aY P w K mg base CX0 2 f fd ["machines"] (vQ CM):=by
 refine F.ok aRd (λvs H Q E h=>?_) (λcdv A outer s H vs Q E hr h=>?_)
 ·obtain⟨x,p,ms,N,rfl,_⟩:=h;rfl
 ·obtain⟨x,p,ms,N,rfl,M,hl,hN,h64,q⟩:=h
  refine⟨_,aK (bJ (i:=1) aRd.nd rfl (xAx rfl) (cM aH))
   (aK (dI PassesOwn.never rfl (cS (pv 0)) (aP (i:=2) aRd.nd rfl (xAx rfl))
    (aL (cW (kU xBq xGs xGr qN (pv 1) (pac (dS (pv 2) MC.cl mKn GKn hr bKn .nil cA) aH)))))
   (aL (bO (bV GMk hr rfl mMk kMk bMk .nil cA (pac (pv 1) aH))))),?_⟩
  obtain⟨Xs,h0,h1,h2⟩:=M.ex;refine⟨by show 0<=sizeLine; decide,λD hD=>⟨_,rfl,p,rfl,⟨_,SqL.of (smu hD _ _ h0)⟩,?_⟩⟩;refine dH (xs:=Xs.map V.ref) (λi Z H'=>∃ (x2:Option V) (kn:List Str),Z=[some (.ref p),some (.ref D),x2]/\(∀ z,z∈kn↔z∈wkn (ms.take i))/\kn.length<=64*i/\H' D=some (.lst (kn.map V.str))/\aO H H') ?_ ?_ ?_ ?_
  ·exact⟨none,[],rfl,λz=>Iff.rfl,xAi _,aD,smu hD⟩
  ·rintro i Z H' _ ⟨x2,kn,rfl,b1,b2,a1,a2⟩;exact SqL.of (a2 _ _ h0)
  ·rintro i v Z H' hv ⟨x2,kn,rfl,b1,b2,a1,a2⟩;rw[xAg] at hv;cases hX:Xs[i]? with
   | none=>rw[hX] at hv; cases hv
   | some X=>
    rw[hX] at hv;cases hv;have hi:i<ms.length:=by rw[<- h1]; exact (xAc.mp hX).1
    have hm:=xAh hi;have hmm:ms[i]∈ms:=xCt hi;generalize ms[i]=m at hm hmm;obtain⟨dx,l,e,k,kvs,g,M0⟩:=(h2 i X m hX hm).same a2;have u64:(unl m.kn []).length<64:=xBt (dO λz hz=>hN m hmm z hz) h64;refine⟨_,rfl,.inl ⟨rfl,_,SqL.of a1⟩,_,rfl,X,dx,_,rfl,M0.ins,dP _ _ _ _ _ _ (by decide),X,x,m.b,m.es,m.kn,m.ds,rfl,⟨dx,l,e,k,kvs,g,M0⟩,u64,λl1 ts H2 s2 n1 g1 _ pm=>?_⟩;have tl:ts.length<64:=by rw[pm.length_eq]; exact u64
    refine⟨D,l1,_,_,rfl,rfl,s2 _ _ a1,g1,jI (by rw[xAa,xAa]; omega),?_⟩;refine⟨_,kn++ts,rfl,λz=>?_,by rw[xAj]; omega,by rw[aD,xAn],λb o u=>?_⟩
    ·rw[xCp,b1,sH hm,pm.mem_iff,qA]
    ·rw[aG (aF u hD)];exact s2 _ _ (a2 b o u)
  ·rintro Z H' ⟨x2,kn,rfl,b1,b2,a1,a2⟩;have e1:ms.take (Xs.map V.ref).length=ms:=by rw[xAa,h1,xBa]
   rw[e1] at b1;rw[xAa,h1] at b2;refine⟨_,rfl,D,kn,rfl,SqL.of a1,by omega,λd H2 s2 n2 g2=>q d kn H2 (a2.trans s2) (a2.free n2) b1 g2⟩
def NLs (H H':Hp):Prop:=∀ b o,H b=some o->(∀ xs,o≠.lst xs)->H' b=some o
theorem aQc {CM:Addr}{H H':Hp}{x dd:Addr}{b:Str}{es kn:List Str}{ds:List Dr}(h:MM CM H x dd b es kn ds)(s:NLs H H'):MM CM H' x dd b es kn ds:=by
 obtain⟨dx,l,e,k,kvs,g,M⟩:=h;exact⟨dx,l,e,k,kvs,g,⟨s _ _ M.ins (λ_ z=>nomatch z),⟨s _ _ M.lead.dk (λ_ z=>nomatch z),M.lead.keys,M.lead.val,λz hz=>s _ _ (M.lead.dd z hz) (λ_ z=>nomatch z),M.lead.inj,M.lead.ne⟩,s _ _ M.ends (λ_ z=>nomatch z),s _ _ M.know (λ_ z=>nomatch z)⟩⟩
theorem aEr {H:Hp}{l:Addr}{xs ys:List V}(hm:H l=some (.lst xs)):NLs H (upd H l (.lst ys)):=λb o e n=>by
 rw[aG (λz=>by rw[z,hm] at e; exact n _ (xBp e).symm)];exact e
abbrev aIk (lm lk:Addr):List (Str×V):=[("machines",.ref lm),("known_marks",.ref lk)]
abbrev aPv:List Str:=["deeds","begin","knows","at","to","is_end","ways","rooms"]
theorem dN (lm lk:Addr):∀ m∈aPv,(aIk lm lk).lookup m=none:=by
 have h:∀ m∈aPv,(m==("machines" : Str))=false/\(m==("known_marks" : Str))=false:=by decide +kernel
 intro m hm;obtain⟨h1,h2⟩:=h m hm;simp only[List.lookup,h1,h2]
inductive Wv (CM CW:Addr)(H:Hp)(v x:Addr)(ms:List MW):Prop
 | mk (dv lm lk:Addr)(kn:List Str)(ins:H v=some (.ins CW dv (aIk lm lk)))(mm:mJ CM H x lm ms)(dk:H lk=some (.dK (mks kn [])))(kk:∀ z,z∈kn↔z∈wkn ms)
theorem Wv.same {CM CW:Addr}{H H':Hp}{v x:Addr}{ms:List MW}(W:Wv CM CW H v x ms)(sm:aO H H'):Wv CM CW H' v x ms:=by
 obtain⟨dv,lm,lk,kn,h1,h2,h3,h4⟩:=W;exact⟨dv,lm,lk,kn,sm _ _ h1,h2.same sm,sm _ _ h3,h4⟩
structure rU (K:xAd)(CW:Addr):Prop where
 cl:Cls K CW
 nm:gM K CW "machines"
 nk:gM K CW "known_marks"
theorem aRx {CM CW:Addr}{H H':Hp}{v dv x p:Addr}{ms:List MW}(hv:H v=some (.ins CW dv []))(s:SameBut v H H')(M:mJ CM H x p ms):mJ CM H' x p ms:=by
 have k:∀ {b:Addr}{o:HO},H b=some o->o≠.ins CW dv []->H' b=some o:=λ{b o} e n=>s b o (λz=>n (by rw[z,hv] at e; exact (xBp e).symm)) e;obtain⟨Xs,h0,h1,h2⟩:=M.ex;refine⟨Xs,k h0 (λz=>nomatch z),h1,λi X m a b=>?_⟩;obtain⟨dx,l,e,kk,kvs,g,M0⟩:=h2 i X m a b;exact⟨dx,l,e,kk,kvs,g,⟨k M0.ins (λz=>by cases z),⟨k M0.lead.dk (λz=>nomatch z),M0.lead.keys,M0.lead.val,λz hz=>k (M0.lead.dd z hz) (λz=>nomatch z),M0.lead.inj,M0.lead.ne⟩,k M0.ends (λz=>nomatch z),k M0.know (λz=>nomatch z)⟩⟩
inductive wS (CM CW cT:Addr)(vs:List V)(H:Hp)(Q:VK)(E:XK):Prop
 | mk (v dv x p:Addr)(ms:List MW)(N:List Str)(h0_:vs=[.ref v,.ref p])(h1_:H v=some (.ins CW dv []))(h2_:mJ CM H x p ms)(h3_:1<=ms.length/\ms.length<=7)(h4_:∀ m∈ms,∀ z∈m.kn,z∈N)(h5_:N.length<64)(h6_:∀ H',SameBut v H H'->Wv CM CW H' v x ms->(∀ d xs,H d=some (.lst xs)->Wv CM CW (upd H' d (.lst [])) v x ms)->Q .non H')
 | bad (v p:Addr) (xs:List V) (h0_:vs=[.ref v,.ref p]) (h1_:H p=some (.lst xs)) (h2_:xs.length=0\/7<xs.length) (h3_:E (.ref cT) none H)
inductive sP (CM CW:Addr)(vs:List V)(H:Hp)(Q:VK)(E:XK):Prop
 | mk (v x:Addr)(ms:List MW)(h0_:vs=[.ref v])(h1_:Wv CM CW H v x ms)(h2_:1<=ms.length)(h3_:Q (.ref x) H)
inductive sQ (CM CW:Addr)(vs:List V)(H:Hp)(Q:VK)(E:XK):Prop
 | mk (v x:Addr)(ms:List MW)(h0_:vs=[.ref v])(h1_:Wv CM CW H v x ms)(h2_:ms.length<=100)(h3_:aAz H Q (some (ms.map (·.b))))
structure Srt (ts:List Str)(p:Str->Prop):Prop where
 so:xBr ts=true
 nd:ts.Nodup
 mem:∀ z,z∈ts↔p z
theorem Srt.one {ts us:List Str}{p q:Str->Prop}(h:Srt ts p)(g:Srt us q)(e:∀ z,p z↔q z):ts=us:=
 sX (s:=us) ((List.perm_ext_iff_of_nodup h.nd g.nd).mpr λz=>by rw[h.mem,g.mem,e]) (List.Perm.refl _) h.so g.so
inductive sN (CM CW:Addr)(vs:List V)(H:Hp)(Q:VK)(E:XK):Prop
 | mk (v x:Addr)(ms:List MW)(N:List Str)(h0_:vs=[.ref v])(h1_:Wv CM CW H v x ms)(h2_:∀ z∈wkn ms,z∈N)(h3_:N.length<64)(h4_:∀ (l:Addr) (ts:List Str) H',aO H H'->H l=none->H' l=some (.lst (ts.map V.str))->Srt ts (λz=>z∈wkn ms)->Q (.ref l) H')
inductive yO (K:xAd)(CM CW:Addr)(vs:List V)(H:Hp)(Q:VK)(E:XK):Prop
 | mk (v x t:Addr)(ms:List MW)(room:List Str)(h0_:vs=[.ref v,.ref t])(h1_:Wv CM CW H v x ms)(h2_:SqT K H t (room.map V.str))(h3_:ROk ms room)(h4_:ms.length<=100)(h5_:∀ H',aO H H'->Q (.bl (iX ms room)) H')
theorem aWd:aQ ["self","machines"] ["self","machines"] (aB aIj):=xfs
theorem aKq {f fK CM CW cT:Addr}{fd fdK:FuncData}(F:Fun K "__init__" "Woven.__init__" aIj f fd)(T:Txt K mg)(WC:rU K CW)(mMW:∃ t,mg "MOST_WOVEN" = some (.int 7 t))(mTM:mg "TooMany" = some (.ref cT))(xTM:yC K cT)
  (GK:aY P w K mg base CX0 2 fK fdK ["machines"] (vQ CM))(kK:keepIn K (.ref fK)=true)(bK:aW K fdK ["machines"] [])(mK:mg "known_of" = some (.ref fK)):aY P w K mg base (CXE P w) 3 f fd ["self","machines"] (wS CM CW cT):=by
 obtain⟨tw,mMW⟩:=mMW;refine okE F aWd (λvs H Q E h=>?_) (λcdv A outer s H vs Q E hr h D=>?_)
 ·rcases h with⟨v,dv,x,p,ms,N,rfl,_⟩ | ⟨v,p,xs,rfl,_⟩ <;> rfl
 ·refine⟨_,aK (dR (rD (kG (zH (pv 1) (λ_=>rfl))) (qE (cB rE (cC cZ (by rfl) T.len Bo.len (pac (pv 1) aH)) (jC (v:=.int 7) (by rfl) mMW ⟨_,rfl⟩) (cO _)))).pt (aL (iH D rfl (by rfl) mTM xTM (pac aS aH))) cG)
   (aK (kH (pv 0) (eG pS (by rfl) T.list Bo.list (pac (pv 1) aH)) rfl)
   (aL (kH (pv 0) (bV GK hr rfl mK kK bK .nil cA (pac (pv 1) aH)) rfl))),?_⟩
  rcases h with⟨v,dv,x,p,ms,N,rfl,hv,M,hl,hN,h64,q⟩ | ⟨v,p,xs,rfl,h0,hb,q⟩
  rotate_left
  ·cases xs with
   | nil=>exact⟨_,rfl,false,.inl ⟨_,SqL.of h0,rfl⟩,jR ⟨by show 1<=sizeLine; decide,q⟩⟩
   | cons y ys=>exact⟨_,rfl,true,.inl ⟨_,SqL.of h0,rfl⟩,gP ⟨_,rfl,p,_,rfl,.inl (SqL.of h0),_,_,rfl,rfl,_,rfl,fU (λ_=>⟨by show 1<=sizeLine; decide,q⟩) λz=>xBg (xAv (by simp only[List.length_cons] at hb ⊢; omega)) z⟩⟩
  obtain⟨Xs,h0,h1,h2⟩:=M.ex
  have hne:(Xs.map V.ref).isEmpty=false:=by
   cases Xs with
   | nil=>simp at h1; omega
   | cons _ _=>rfl
  refine⟨_,rfl,true,.inl ⟨_,SqL.of h0,by rw[hne]; rfl⟩,gP ⟨_,rfl,p,_,rfl,.inl (SqL.of h0),_,_,rfl,rfl,_,rfl,fU (λz=>xBg (xAp z) (by rw[xAa]; omega)) λ_=>?_⟩⟩;refine⟨_,rfl,p,_,rfl,.inl (SqL.of h0),λlm hlm=>⟨_,rfl,v,CW,dv,[],rfl,smu hlm _ _ hv,WC.cl,WC.nm,by decide,?_⟩⟩;have nv:lm≠v:=λz=>by rw[z,hv] at hlm; cases hlm
  generalize hH2:upd (upd H lm _) v _=H2;have s2:SameBut v H H2:=λb o n e=>by rw[<- hH2,aG n]; exact smu hlm _ _ e
  have v2:H2 v=some (.ins CW dv [("machines",.ref lm)]):=by rw[<- hH2,aD]; rfl
  have l2:H2 lm=some (.lst (Xs.map V.ref)):=by rw[<- hH2,aG nv,aD]
  clear hH2;have M2:=aRx hv s2 M
  have M2':mJ CM H2 x lm ms:=by
   obtain⟨Ys,k0,k1,k2⟩:=M2.ex;have pv':p≠v:=λz=>by rw[z,hv] at h0; cases h0
   have e:=s2 _ _ pv' h0;rw[k0] at e;have e':Ys.map V.ref=Xs.map V.ref:=HO.lst.inj (xBp e);exact⟨Ys,by rw[e']; exact l2,k1,k2⟩
  refine⟨_,rfl,x,p,ms,N,rfl,M2,by omega,hN,h64,λlk kn H3 s3 hlk hkn g3=>⟨_,rfl,v,CW,dv,_,rfl,s3 _ _ v2,WC.cl,WC.nk,by show 1<1000; decide,?_⟩⟩;have kv:lk≠v:=λz=>by rw[z,v2] at hlk; cases hlk
  have M3:=M2'.same s3;have v3:=s3 _ _ v2;have sF:SameBut v H (upd H3 v (.ins CW dv (gY "known_marks" (.ref lk) [("machines",.ref lm)]))):=λb o n e=>by rw[aG n]; exact s3 _ _ (s2 b o n e)
  have vF:(upd H3 v (.ins CW dv (gY "known_marks" (.ref lk) [("machines",.ref lm)]))) v=some (.ins CW dv (aIk lm lk)):=aD;have kF:(upd H3 v (.ins CW dv (gY "known_marks" (.ref lk) [("machines",.ref lm)]))) lk=some (.dK (mks kn [])):=by rw[aG kv]; exact g3
  have MF:mJ CM (upd H3 v (.ins CW dv (gY "known_marks" (.ref lk) [("machines",.ref lm)]))) x lm ms:=by
   have k:∀ {b:Addr}{o:HO},H3 b=some o->o≠.ins CW dv [("machines",.ref lm)]->(upd H3 v (.ins CW dv (gY "known_marks" (.ref lk) [("machines",.ref lm)]))) b=some o:=λ{b o} e n=>by
    rw[aG (λz=>n (by rw[z,v3] at e; exact (xBp e).symm))];exact e
   obtain⟨Ys,k0,k1,k2⟩:=M3.ex;refine⟨Ys,k k0 (λz=>nomatch z),k1,λi X m a b=>?_⟩;obtain⟨dx,l,e,kk,kvs,g,M0⟩:=k2 i X m a b;exact⟨dx,l,e,kk,kvs,g,⟨k M0.ins (λz=>by cases z),⟨k M0.lead.dk (λz=>nomatch z),M0.lead.keys,M0.lead.val,λz hz=>k (M0.lead.dd z hz) (λz=>nomatch z),M0.lead.inj,M0.lead.ne⟩,k M0.ends (λz=>nomatch z),k M0.know (λz=>nomatch z)⟩⟩
  refine q _ sF ⟨dv,lm,lk,kn,vF,MF,kF,hkn⟩ λd xs hd=>?_;have dv':d≠v:=λz=>by rw[z,hv] at hd; cases hd
  have hdF:=sF d _ dv' hd;have ld:lm≠d:=λz=>by rw[z,hd] at hlm; cases hlm
  generalize upd H3 v (.ins CW dv (gY "known_marks" (.ref lk) [("machines",.ref lm)]))=HF at sF vF kF MF hdF;have nk:NLs HF (upd HF d (.lst [])):=aEr hdF;obtain⟨Ys,k0,k1,k2⟩:=MF.ex;exact⟨dv,lm,lk,kn,nk _ _ vF (λ_ z=>nomatch z),⟨Ys,by rw[aG ld]; exact k0,k1,λi X m a b=>aQc (k2 i X m a b) nk⟩,nk _ _ kF (λ_ z=>nomatch z),hkn⟩
theorem aWf:aQ ["self"] ["self"] (aB aBi):=xfs
theorem aGp {f fD CM CW:Addr}{fd fdD:FuncData}(F:Fun K "deeds" "Woven.deeds" aBi f fd)(WC:rU K CW)(MC:lA K CM)
  (GD:aY P w K mg base CX0 1 fD fdD ["self"] (sV CM))(bD:aW K fdD ["self"] [])(mD:fV K CM "deeds" fD):aY P w K mg base CX0 2 f fd ["self"] (sP CM CW):=by
 refine F.ok aWf (λvs H Q E h=>?_) (λcdv A outer s H vs Q E hr h=>?_)
 ·obtain⟨v,x,ms,rfl,_⟩:=h;rfl
 ·obtain⟨v,x,ms,rfl,⟨dv,lm,lk,kn,hi,M,hk,hkn⟩,hl,q⟩:=h;refine⟨_,aL (bO (dS (eE cY (eN (pv 0) rfl) aN (λ_ _=>rfl)) MC.cl mD GD hr bD .nil cA)),?_⟩;obtain⟨Xs,h0,h1,h2⟩:=M.ex;have hX:=xAh (l:=Xs) (i:=0) (by omega);have hm:=xAh (l:=ms) (i:=0) (by omega);generalize Xs[0]'(by omega)=X at hX;generalize ms[0]'(by omega)=m at hm;obtain⟨dx,l,e,k,kvs,g,M0⟩:=h2 0 X m hX hm;exact⟨_,rfl,v,CW,dv,_,_,rfl,hi,WC.cl,WC.nm,by rfl,lm,_,_,.ref X,rfl,rfl,SqL.of h0,iF (j:=0) (by rw[xAg,hX]; rfl),X,dx,_,rfl,M0.ins,dP _ _ _ _ _ _ (by decide),X,x,m.b,m.es,m.kn,m.ds,rfl,⟨dx,l,e,k,kvs,g,M0⟩,q⟩
theorem aWg:aQ ["self"] ["self"] (aB aBj):=xfs
theorem aGq {f fB CM CW:Addr}{fd fdB:FuncData}(F:Fun K "begin" "Woven.begin" aBj f fd)(WC:rU K CW)
  (GB:aY P w K mg base CX0 2 fB fdB ["machines"] (vS CM))(kB:keepIn K (.ref fB)=true)(bB:aW K fdB ["machines"] [])(mB:mg "begin_of" = some (.ref fB)):aY P w K mg base CX0 3 f fd ["self"] (sQ CM CW):=by
 refine F.ok aWg (λvs H Q E h=>?_) (λcdv A outer s H vs Q E hr h=>?_)
 ·obtain⟨v,x,ms,rfl,_⟩:=h;rfl
 ·obtain⟨v,x,ms,rfl,⟨dv,lm,lk,kn,hi,M,hk,hkn⟩,hl,q⟩:=h;exact⟨_,aL (bO (bV GB hr (by rfl) mB kB bB .nil cA (pac (eN (pv 0) rfl) aH))),_,rfl,v,CW,dv,_,_,rfl,hi,WC.cl,WC.nm,by rfl,x,lm,ms,rfl,M,hl,q⟩
theorem aWc:aQ ["self"] ["self"] (aB aBg):=xfs
theorem aGn {f CM CW:Addr}{fd:FuncData}(F:Fun K "knows" "Woven.knows" aBg f fd)(T:Txt K mg)(WC:rU K CW):aY P w K mg base CX0 1 f fd ["self"] (sN CM CW):=by
 refine F.ok aWc (λvs H Q E h=>?_) (λcdv A outer s H vs Q E hr h=>?_)
 ·obtain⟨v,x,ms,N,rfl,_⟩:=h;rfl
 ·obtain⟨v,x,ms,N,rfl,⟨dv,lm,lk,kn,hi,M,hk,hkn⟩,hN,h64,q⟩:=h;refine⟨_,aL (bO (cC (iN rfl) (by rfl) T.sorted Bo.sorted (pac (eN (pv 0) rfl) aH))),?_⟩;exact⟨_,rfl,v,CW,dv,_,_,rfl,hi,WC.cl,WC.nk,by rfl,lk,_,_,rfl,hk,nC rfl,xBt (dO λz hz=>hN z ((hkn z).mp hz)) h64,λl ts hl' pm so=>q l ts _ (smu hl') hl' aD ⟨so,pm.nodup_iff.mpr (jO _ _ .nil),λz=>by rw[pm.mem_iff,qA,hkn]⟩⟩
theorem aWe:aQ ["self","room"] ["self","room"] (aB aBh):=xfs
theorem aGo {f fA CM CW:Addr}{fd fdA:FuncData}(F:Fun K "is_end" "Woven.is_end" aBh f fd)(WC:rU K CW)
  (GA:aY P w K mg base CX0 4 fA fdA ["machines","room"] (vT K CM))(kA:keepIn K (.ref fA)=true)(bA:aW K fdA ["machines","room"] [])(mA:mg "all_at_ends" = some (.ref fA)):aY P w K mg base CX0 5 f fd ["self","room"] (yO K CM CW):=by
 refine F.ok aWe (λvs H Q E h=>?_) (λcdv A outer s H vs Q E hr h=>?_)
 ·obtain⟨v,x,t,ms,room,rfl,_⟩:=h;rfl
 ·obtain⟨v,x,t,ms,room,rfl,⟨dv,lm,lk,kn,hi,M,hk,hkn⟩,hT,R,hl,q⟩:=h;exact⟨_,aL (bO (bV GA hr (by rfl) mA kA bA .nil cA (pac (eN (pv 0) rfl) (pac (pv 1) aH)))),_,rfl,v,CW,dv,_,_,rfl,hi,WC.cl,WC.nm,by rfl,_,rfl,x,lm,t,ms,room,rfl,M,hT,R,hl,q⟩
theorem nL {l:List Str}{p:Str->Bool}(h:xBr l=true):xBr (l.filter p)=true:=PyProof.Rows.sortedS_of_pairwise _ ((qB h).filter p)
theorem Srt.filter {l:List Str}{q:Str->Prop}(h:Srt l q)(p:Str->Bool):Srt (l.filter p) (λz=>q z/\p z=true):=
 ⟨nL h.so,h.nd.filter p,λz=>by rw[xCc,h.mem]⟩
inductive aDz (K:xAd)(C CM CW cD:Addr)(vs:List V)(H:Hp)(Q:VK)(E:XK):Prop
 | mk (v x t:Addr)(y:V)(ms:List MW)(room:List Str)(wk:List (Key×V))(h0_:vs=[.ref v,.ref t,y])(h1_:Wv CM CW H v x ms)(h2_:SqT K H t (room.map V.str))(h3_:ROk ms room)(h4_:1<=ms.length/\ms.length<=100)(h5_:WAt C H x wk)(h6_:aBa y)
  (h7_:dM wk y=true->∀ u,y=.str u->aAz H Q (wto ms room u))(h8_:dM wk y=false->∀ H',aO H H'->E (.ref cD) none H')
inductive aPy (K:xAd)(C CM CW:Addr)(vs:List V)(H:Hp)(Q:VK)(E:XK):Prop
 | mk (v x t:Addr)(ms:List MW)(room N:List Str)(wk:List (Key×V))(h0_:vs=[.ref v,.ref t])(h1_:Wv CM CW H v x ms)(h2_:SqT K H t (room.map V.str))(h3_:ROk ms room)(h4_:1<=ms.length/\ms.length<=100)(h5_:WAt C H x wk)(h6_:∀ z∈wkn ms,z∈N)(h7_:N.length<64)(h8_:∀ z∈N,dM wk (.str z)=true)
  (h9_:∀ (l:Addr) (ts:List Str) H',aO H H'->H l=none->H' l=some (.lst (ts.map V.str))->Srt ts (λz=>z∈wkn ms/\(wto ms room z).isSome=true)->Q (.ref l) H')
theorem aAz.mono {H H1:Hp}{Q:VK}{o:Option (List Str)}(h:aAz H Q o)(s:aO H H1):aAz H1 Q o:=by
 cases o with
 | none=>exact λH' s'=>h H' (s.trans s')
 | some ss=>exact λl H' s' n e=>h l H' (s.trans s') (s.free n) e
theorem fX {C:Addr}{H H':Hp}{p:Addr}{kvs:List (Key×V)}(W:WAt C H p kvs)(sm:aO H H'):WAt C H' p kvs:=by
 obtain⟨dx,fs,dw,o,h0,h1,h2,h3⟩:=W;exact⟨dx,fs,dw,o,sm _ _ h0,h1,h2,sm _ _ h3⟩
theorem nG {wk:List (Key×V)}{z:Str}(h:dM wk (.str z)=true):z.length<=1000:=xAr (lP (xEc.mp h).1) (by decide)
theorem aWa:aQ ["self","room","deed"] ["self","room","deed"] (aB wTo):=xfs
theorem aRp {f fD fQ fF C CM CW:Addr}{fd fdD fdQ fdF:FuncData}{cl:Why->Addr}(F:Fun K "to" "Woven.to" wTo f fd)(DC:aDr K C)(WC:rU K CW)
  (GD:aY P w K mg base CX0 2 fD fdD ["self"] (sP CM CW))(bD:aW K fdD ["self"] [])(mD:fV K CW "deeds" fD)
  (GQ:aY P w K mg base (CXE P w) 3 fQ fdQ ["self","row"] (jP K C cl))(bQ:aW K fdQ ["self","row"] [])(mQ:fV K C "require" fQ)
  (GF:aY P w K mg base CX0 2 fF fdF ["machines","room","deed"] (aEe K CM))(kF:keepIn K (.ref fF)=true)(bF:aW K fdF ["machines","room","deed"] [])(mF:mg "far_of" = some (.ref fF)) :
  aY P w K mg base (CXE P w) 4 f fd ["self","room","deed"] (aDz K C CM CW (cl .noDeed)):=by
 refine okE F aWa (λvs H Q E h=>?_) (λcdv A outer s H vs Q E hr h D=>?_)
 ·obtain⟨v,x,t,y,ms,room,wk,rfl,_⟩:=h;rfl
 ·obtain⟨v,x,t,y,ms,room,wk,rfl,W,hT,R,hl,hW,hy,q1,q2⟩:=h;have hu:=iI hr;have hr2:cL 2 _:=hr.mono (by decide)
  refine⟨_,aK (cW (eA (dS (pv 0) WC.cl mD GD hr2 bD .nil cA) DC.cl mQ GQ hr bQ .nil (D.passes λ_ _ _ z=>z) (pac (cM (pac (pv 2) aH)) aH)))
   (aK (dR (qF (qH hu (pv 2) (eN (pv 0) rfl))) (aL (bO jJ)) cG)
   (aL (bO (bV GF hr2 (by rfl) mF kF bF .nil cA (pac (eN (pv 0) rfl) (pac (pv 1) (pac (pv 2) aH))))))),?_⟩
  obtain⟨dv,lm,lk,kn,hi,M,hk,hkn⟩:=id W;obtain⟨wx,wf,ww,wo,hw0,hw1,hw2,hw3⟩:=id hW;refine⟨_,rfl,v,dv,_,rfl,hi,dN _ _ _ (by decide),v,x,ms,rfl,W,hl.1,x,wx,wf,rfl,hw0,hw1 "require" (by decide),_,rfl,by show 1<=sizeLine; decide,λp hp=>?_⟩;have s3:=smu (o:=.lst [y]) hp;refine⟨x,p,_,wk,rfl,SqL.of aD,λu hv=>?_,fX hW s3,λH4 s4=>?_⟩
  ·rw[xBb.mp hv];exact hy
  ·have e1:([y]:List V).all (dM wk)=dM wk y:=by rw[xGy,List.all_nil,xJl]
   rw[e1]
   by_cases hg:dM wk y=true
   ·rw[xBe hg]
    obtain⟨u,rfl⟩:∃ u,y=.str u:=by
     cases y with
     | str u=>exact⟨u,rfl⟩
     | _=>cases hg
    have s5:=s3.trans s4;have qq:=(q1 hg u rfl).mono s5;unfold wto at qq;refine⟨_,rfl,_,rfl,v,CW,dv,_,_,rfl,s5 _ _ hi,WC.cl,WC.nk,by rfl,lk,_,rfl,dQ.k (k:=Sum.inr u) (s5 _ _ hk),_,rfl,?_⟩;rw[qS rfl u]
    by_cases hm:u∈wkn ms
    ·rw[xAv ((hkn u).mpr hm)];rw[xBe hm] at qq;exact gP ⟨_,rfl,v,CW,dv,_,_,rfl,s5 _ _ hi,WC.cl,WC.nm,by rfl,_,rfl,_,rfl,x,lm,t,ms,room,u,rfl,M.same s5,lF hT s5,R,hl.2,qq⟩
    ·rw[xBj λz=>hm ((hkn u).mp z)];rw[xAy hm] at qq;exact jR (qq H4 (aO.refl H4))
   ·rw[xAy hg];exact q2 (xCs.mpr hg) H4 (s3.trans s4)
theorem aWh:aQ ["self","room"] ["self","room"] (aB wAt):=xfs
abbrev ndw:List Str:=["deed","self","room"]
theorem aRq {f fK fT C CM CW cD:Addr}{fd fdK fdT:FuncData}(F:Fun K "at" "Woven.at" wAt f fd)(WC:rU K CW)
  (GK:aY P w K mg base CX0 1 fK fdK ["self"] (sN CM CW))(bK:aW K fdK ["self"] [])(mK:fV K CW "knows" fK)
  (GT:aY P w K mg base (CXE P w) 4 fT fdT ["self","room","deed"] (aDz K C CM CW cD))(bT:aW K fdT ["self","room","deed"] [])(mT:fV K CW "to" fT) :
  aY P w K mg base CX0 5 f fd ["self","room"] (aPy K C CM CW):=by
 refine F.ok aWh (λvs H Q E h=>?_) (λcdv A outer s H vs Q E hr h=>?_)
 ·obtain⟨v,x,t,ms,room,N,wk,rfl,_⟩:=h;rfl
 ·obtain⟨v,x,t,ms,room,N,wk,rfl,W,hT,R,hl,hW,hN,h64,hg,q⟩:=h;have hr1:cL 1 _:=hr.mono (by decide)
  refine⟨_,aL (bO (dW (N':=ndw) (nown:=1) (js:=[0,1]) rfl
     xbs (cF (aB wAt) ["self","room"] rfl rfl (by decide +kernel))
     ⟨λ_ _ _ _=>aP (i:=0) (show List.Nodup ndw by decide +kernel) rfl (xAx rfl) (.inr rfl),
      λ_ _ _ _=>jZ (cB xI (eA (pv 1) WC.cl mT GT hr bT .nil nM (pac (pv 2) (pac (pv 0) aH))) jJ (cO _)),
      λ_ _ _ _=>pv 0⟩
     (cS (dS (pv 0) WC.cl mK GK hr1 bK .nil cA)))),?_⟩
  obtain⟨dv,lm,lk,kn,hi,M,hk,hkn⟩:=id W;refine⟨_,rfl,v,dv,_,rfl,hi,dN _ _ _ (by decide),v,x,ms,N,rfl,W,hN,h64,λl ts H2 s2 n2 g2 S2=>⟨l,rfl,⟨_,SqL.of g2⟩,λD hD=>?_⟩⟩
  have lts:ts.length<64:=by
   have:ts.length<=N.length:=by
    have:=dO (rs:=ts) (N:=N) λz hz=>hN z ((S2.mem z).mp hz)
    rw[<- (jA (m:=unl ts []) S2.nd (λz hz=>qA.mpr hz) (dO λz hz=>hz)).length_eq] at this;exact this
   omega
  refine gH (xs:=ts.map V.str) (λi Z' H'=>∃ v0,Z'=[v0,some (.ref v),some (.ref t)]/\H' D=some (.lst (((ts.take i).filter λz=>(wto ms room z).isSome).map V.str))/\aO H2 H') ?_ ?_ ?_ ?_
  ·exact⟨none,rfl,aD,smu hD⟩
  ·rintro i Z' H' _ ⟨v0,rfl,a1,a2⟩;exact SqL.of (a2 _ _ g2)
  ·rintro i u Z' H' hv ⟨v0,rfl,a1,a2⟩;rw[xAg] at hv;cases hz:ts[i]? with
   | none=>rw[hz] at hv; cases hv
   | some z=>
    rw[hz] at hv;cases hv;have sA:=s2.trans a2;have hzk:=(S2.mem z).mp (xAu hz);have gz:=hg z (hN z hzk)
    have ef:(ts.take (i+1)).filter (λz=>(wto ms room z).isSome)=(ts.take i).filter (λz=>(wto ms room z).isSome)++(if (wto ms room z).isSome=true then [z] else []):=by
     rw[xBl,hz,xHw];congr 1;show List.filter _ [z]=_;rw[xFx,xIn]
    have lf:((ts.take i).filter λz=>(wto ms room z).isSome).length<=63:=xAr (xCw ..) (by rw[xAt]; omega);refine⟨_,rfl,v,dv,_,rfl,sA _ _ hi,dN _ _ _ (by decide),_,rfl,_,rfl,v,x,t,.str z,ms,room,wk,rfl,W.same sA,lF hT sA,R,hl,fX hW sA,.inl ⟨z,rfl,nG gz⟩,λ_ u' eu=>?_,λbad=>xBg (gz.symm.trans bad) (by decide)⟩;cases eu;cases ho:wto ms room z with
    | none=>
     intro H3 s3;refine⟨rfl,_,rfl,gP ⟨_,rfl,?_,a2.trans s3⟩⟩;rw[ef,ho]
     simpa using s3 _ _ a1
    | some ss=>
     intro l3 H3 s3 n3 e3;refine⟨rfl,_,rfl,jR ⟨_,rfl,_,s3 _ _ a1,aR (by rw[xAa]; omega),_,rfl,?_,λb o e=>?_⟩⟩
     ·rw[aD,ef,ho,xAn];rfl
     ·rw[aG (aF e hD)];exact s3 _ _ (a2 b o e)
  ·rintro Z' H' ⟨v0,rfl,a1,a2⟩;rw[xAa,xBa] at a1;exact q D _ H' (s2.trans a2) (s2.free hD) a1 (S2.filter _)
abbrev aMy (l:List (Int×Nat)):Prop:=∀ x∈l,1<=x.2/\x.2<=5
inductive aIy (K:xAd)(vs:List V)(H:Hp)(Q:VK)(E:XK):Prop
 | mk (p n:Addr)(c:Int)(l:List (Int×Nat))(ss:List Str)(h0_:vs=[.ref p,.int c,.ref n])(h1_:pW H p l ss)(h2_:SqL K H n (ss.map V.str))(h3_:ss.length<=12)(h4_:1<=l.length/\l.length<=3)(h5_:aMy l)
  (h6_:∀ (D:Addr) (l':List (Int×Nat)) H',aO H H'->H D=none->pW H' D l' ss->1<=l'.length/\l'.length<=7->aMy l'->Q (.ref D) H')
structure PlG (D:Addr)(H:Hp)(l:List (Int×Nat))(ss:List Str):Prop where
 ex:∃ ts:List Addr,H D=some (.lst (ts.map V.ref))/\ts.length=l.length/\∀ (j:Nat) (t:Addr) (x:Int×Nat),ts[j]?=some t->l[j]?=some x->rA D H t x.1 x.2 ss
theorem PlG.same {D:Addr}{H H':Hp}{l:List (Int×Nat)}{ss:List Str}(G:PlG D H l ss)(s:aO H H'):PlG D H' l ss:=by
 obtain⟨ts,h0,h1,h2⟩:=G.ex;exact⟨ts,s _ _ h0,h1,λj t x a b=>(h2 j t x a b).same s⟩
theorem PlG.plant {D:Addr}{H:Hp}{l:List (Int×Nat)}{ss:List Str}(G:PlG D H l ss):pW H D l ss:=by
 obtain⟨ts,h0,h1,h2⟩:=G.ex;exact⟨ts,h0,h1,λj t x a b=>(h2 j t x a b).row⟩
theorem PlG.push {D t:Addr}{H:Hp}{l:List (Int×Nat)}{ss:List Str}{c:Int}{n:Nat}(G:PlG D H l ss)(R:rA D H t c n ss):∃ xs,H D=some (.lst xs)/\xs.length=l.length/\PlG D (upd H D (.lst (xs++[.ref t]))) (l++[(c,n)]) ss:=by
 obtain⟨ts,h0,h1,h2⟩:=G.ex;refine⟨_,h0,by rw[xAa,h1],⟨ts++[t],by rw[aD,xAn]; rfl,by rw[xAj,xAj,h1]; rfl,λj u y hu hy=>?_⟩⟩
 by_cases hj:j<ts.length
 ·rw[xBf hj] at hu;rw[xBf (by omega)] at hy;exact (h2 j u y hu hy).put ⟨_,h0⟩
 ·have hl:j=ts.length:=by
   have:=(xAc.mp hu).1
   rw[xAj] at this;simp only[List.length_cons,List.length_nil] at this;omega
  subst hl;rw[xBh (xAi _),xDg] at hu;rw[h1,xBh (xAi _),xDg] at hy;cases hu;cases hy;exact R.put ⟨_,h0⟩
inductive aUy (H:Hp)(p n:Addr)(c:Int)(ss:List Str)(Z:St)(H':Hp):Prop
 | mk (D:Addr)(x4:Option V)(l':List (Int×Nat))(h0_:Z=[some (.ref p),some (.int c),some (.ref n),some (.ref D),x4])(h1_:PlG D H' l' ss)(h2_:1<=l'.length/\l'.length<=7)(h3_:aMy l')(h4_:H D=none)(h5_:aO H H')
abbrev NMo:List Str:=["_law_plant","_law_cell","_law_names","_law_found","_law_k"]
theorem aRb:aQ NMo ["_law_plant","_law_cell","_law_names"] (aB aJo):=xfs
theorem aOj {f fB fM:Addr}{fd fdB fdM:FuncData}(F:Fun K "_law_more" "_law_more" aJo f fd)(T:Txt K mg)
  (GM:aY P w K mg base CX0 1 fM fdM ["_law_cell","_law_k"] oK)(kM:keepIn K (.ref fM)=true)(bM:aW K fdM ["_law_cell","_law_k"] [])(mM:mg "_law_mixed" = some (.ref fM))
  (GB:aY P w K mg base CX0 2 fB fdB ["_law_cell","_law_names","_law_many"] (lG K))(kB:keepIn K (.ref fB)=true)(bB:aW K fdB ["_law_cell","_law_names","_law_many"] [])(mB:mg "_law_machine_by" = some (.ref fB)) :
  aY P w K mg base CX0 3 f fd ["_law_plant","_law_cell","_law_names"] (aIy K):=by
 refine F.ok aRb (λvs H Q E h=>?_) (λcdv A outer s H vs Q E hr h=>?_)
 ·obtain⟨p,n,c,l,ss,rfl,_⟩:=h;rfl
 ·obtain⟨p,n,c,l,ss,rfl,hP,hN,h12,hl,hf,q⟩:=h;have hr1:cL 1 _:=hr.mono (by decide)
  refine⟨_,aK (bJ (i:=3) aRb.nd rfl (xAx rfl) (eG pS (by rfl) T.list Bo.list (pac (pv 0) aH)))
   (dZ (aUy H p n c ss) (dR (cB pC (aX dD (pv 1) aN) aN (cO _))
    (aL (dI PassesOwn.never rfl (gN rfl T.range (pac (aX aRm (aX dY aN (aX dD (aX fJ (pv 1) aN) aN)) (cC cZ (by rfl) T.len Bo.len (pac (pv 0) aH))) aH)) (aP (i:=4) aRb.nd rfl (xAx rfl))
     (aL (cW (kU xBq xCo xCn eX (pv 3) (pac (bV GB hr rfl mB kB bB .nil cA (pac (bV GM hr1 rfl mM kM bM .nil cA (pac (pv 1) (pac (aX dY aN (pv 4)) aH))) (pac (pv 2) (pac (aX dY aN (aX dD (aX dD (aX fJ (pv 1) aN) (aX dY aN (pv 4))) aN)) aH)))) aH)))))) cG)
   (aL (bO (pv 3)))),?_⟩
  obtain⟨ts,h0,h1,h2⟩:=hP.ex;refine⟨_,rfl,p,_,rfl,.inl (SqL.of h0),λD hD=>?_⟩;have s1:aO H (upd H D (.lst (ts.map V.ref))):=smu hD
  have G1:PlG D (upd H D (.lst (ts.map V.ref))) l ss:=by
   refine⟨ts,aD,h1,λj t x a b=>?_⟩;obtain⟨e,d,m,r0,r1,r2,r3⟩:=h2 j t x a b;obtain⟨us,rd,_⟩:=id r2.ex;exact⟨e,d,m,s1 _ _ r0,s1 _ _ r1,r2.same s1,s1 _ _ r3,aF r1 hD,aF rd hD,aF r3 hD⟩
  have h0':=s1 _ _ h0;generalize upd H D (.lst (ts.map V.ref))=H1 at s1 G1 h0' ⊢;refine⟨⟨_,rfl,_,_,rfl,rfl,(by show (0:Int)<5; decide),rfl,_,rfl,fU (λ_=>?_) (λ_=>⟨D,none,l,rfl,G1,⟨hl.1,by omega⟩,hf,hD,s1⟩)⟩,?_⟩
  ·have g4:=cK (c/5) (m:=4) (by decide);refine⟨_,rfl,_,_,rfl,rfl,⟨by decide,by decide⟩,_,_,rfl,rfl,(by show (0:Int)<4; decide),_,_,rfl,rfl,_,rfl,p,_,rfl,.inl (SqL.of h0'),_,_,rfl,rfl,_,rfl,by rw[xAa]; omega,by rw[xAa]; omega,?_⟩;refine qW (n:=(4+c/5%4-((ts.map V.ref).length:Int)).toNat) (λi Z H'=>∃ (x4:Option V) (l':List (Int×Nat)),Z=[some (.ref p),some (.int c),some (.ref n),some (.ref D),x4]/\PlG D H' l' ss/\l'.length=l.length+i/\aMy l'/\aO H H') ?_ ?_ ?_
   ·exact⟨none,l,rfl,G1,rfl,hf,s1⟩
   ·rintro i Z H' hi ⟨x4,l',rfl,G,b1,b2,a2⟩;rw[xAa] at hi;obtain⟨xs,d0,d1,_⟩:∃ xs,H' D=some (.lst xs)/\xs.length=l'.length/\True:=let ⟨us,e0,e1,_⟩:=G.ex; ⟨_,e0,by rw[xAa,e1],trivial⟩
    obtain⟨nk,ek,hk1,hk2⟩:∃ nk:Nat,1+c/20%(1+(0+(i:Int)))%2=(nk:Int)/\1<=nk/\nk<=5:=by
     have g:=cK (c/20%(1+(0+(i:Int)))) (m:=2) (by decide);exact⟨(1+c/20%(1+(0+(i:Int)))%2).toNat,by omega,by omega,by omega⟩
    refine⟨_,rfl,.inl ⟨rfl,_,SqL.of d0⟩,_,rfl,_,rfl,_,_,rfl,rfl,c,_,rfl,_,rfl,_,rfl,_,_,rfl,rfl,⟨by decide,by decide⟩,_,rfl,_,_,rfl,rfl,_,_,rfl,rfl,(by omega),_,_,rfl,rfl,(by show (0:Int)<2; decide),_,_,rfl,rfl,RW.mixed c (700+(0+(i:Int))),n,nk,ss,by rw[ek]; rfl,a2.seq hN,hk1,hk2,h12,λt e d m H3 s3 he hd hm ht he3 hd3 hm3=>?_⟩;have nD:∀ {p:Addr},H' p=none->p≠D:=λh z=>by rw[z,d0] at h; cases h
    obtain⟨ys,y0,y1,y2⟩:=(G.same s3).push (rA.mk e d m ht he3 hd3 hm3 (nD he) (nD hd) (nD hm));refine⟨D,ys,_,rfl,rfl,y0,aR (by omega),_,_,rfl,y2,by rw[xAj,b1]; rfl,λx hx=>?_,λb o u=>?_⟩
    ·rcases xCp.mp hx with h | h
     ·exact b2 x h
     ·rw[xBb.mp h]; exact⟨hk1,hk2⟩
    ·rw[aG (aF u hD)];exact s3 _ _ (a2 b o u)
   ·rintro Z H' ⟨x4,l',rfl,G,b1,b2,a2⟩;rw[xAa] at b1;exact⟨D,x4,l',rfl,G,by omega,b2,hD,a2⟩
  ·rintro Z H' ⟨D',x4,l',rfl,G,hl',hf',hD',s'⟩;exact⟨_,rfl,q D' l' H' s' hD' G.plant hl' hf'⟩
def DT (kvs:List (List Key×V))(ds:List Dr):Prop:=∀ z y:Str,dC kvs [Sum.inr z,Sum.inr y]=(gT ds z y).map V.str
theorem aSu:DT [] []:=λ_ _=>rfl
theorem aAq {ds:List Dr}{x:Dr}(h:∀ y∈ds,y.1=x.1->y.2.1≠x.2.1)(z y:Str):gT (ds++[x]) z y=if z=x.1/\y=x.2.1 then some x.2.2 else gT ds z y:=by
 unfold gT;rw[List.find?_append]
 by_cases q:z=x.1/\y=x.2.1
 ·rw[xBe q]
  have n:ds.find? (λu=>decide (u.1=z)&&decide (u.2.1=y))=none:=xGk.mpr λu hu e=>by
   have e':=xEc.mp e;exact h u hu ((xAp e'.1).trans q.1) ((xAp e'.2).trans q.2)
  rw[n];simp[q.1,q.2]
 ·rw[xAy q]
  have n:[x].find? (λu=>decide (u.1=z)&&decide (u.2.1=y))=none:=xGk.mpr λu hu e=>by
   rw[xBb.mp hu] at e;have e':=xEc.mp e;exact q ⟨(xAp e'.1).symm,(xAp e'.2).symm⟩
  rw[n,Option.or_none]
theorem aSt {kvs:List (List Key×V)}{ds:List Dr}{x:Dr}(h:DT kvs ds)(ha:∀ y∈ds,y.1=x.1->y.2.1≠x.2.1):DT (eY kvs [Sum.inr x.1,Sum.inr x.2.1] (.str x.2.2)) (ds++[x]):=λz y=>by
 rw[lD,aAq ha]
 by_cases q:z=x.1/\y=x.2.1
 ·rw[xBe (by rw[q.1,q.2]),xBe q];rfl
 ·rw[xAy (λe=>q (by
   have e':=xGx e;exact⟨Sum.inr.inj e'.1,Sum.inr.inj (xGx e'.2).1⟩)),xAy q]
  exact h z y
theorem aSk (xs:List Str)(n:Nat):aDn (xs.map V.str) none (some (n:Int))=(xs.take n).map V.str:=by
 unfold aDn;rw[HT.sIx_none,HT.sIx_nat,Nat.sub_zero,List.drop_zero,List.map_take]
 by_cases h:n<=(xs.map V.str).length
 ·rw[Nat.min_eq_left h]
 ·rw[Nat.min_eq_right (by omega),xDt (xAi _),xDt (by omega)]
theorem aFa {S ss:List Str}(pm:S.Perm ss)(hn:∀ z∈ss,aZ z=true):∀ z∈ss,dM (wts S 1 []) (.str z)=true:=λz hz=>by
 rw[dM,sK,hn z hz];simp[pm.mem_iff.mpr hz]
abbrev aMt (l:List (Int×Nat))(ss:List Str):Prop:=∀ x∈l,aFk x.1 x.2 ss/\x.2<=5
theorem aEu (rs:List Str):(mks rs []).length=(unl rs []).length:=by
 have:=congrArg List.length (xN rs [] [] rfl)
 simpa using this
theorem aFk.ul {c:Int}{n:Nat}{ss:List Str}(R:aFk c n ss)(h5:n<=5):(unl (cH (gD c 0) (iB c n) (dB c ss n)) []).length<=5:=by
 have:=dO R.rb
 rw[eI] at this;omega

structure MR where
 b:Str
 es:List Str
 ds:List Dr
 mo:List Str
def MR.mw (r:MR):MW:=⟨r.b,r.es,dJ r.ds r.mo,r.ds⟩
def vW (ss:List Str)(x:Int×Nat):MR:=⟨gD x.1 0,iB x.1 x.2,dB x.1 ss x.2,jK x.1 ss⟩
structure aSo (r:MR)(ss:List Str):Prop where
 le:r.es.length<=200/\r.ds.length<=800/\r.mo.length<=200
 nm:(cH r.b r.es r.ds).all aZ=true
 ap:Apart r.ds
 kn:∀ z∈dJ r.ds r.mo,z∈ss
 ul:(unl (cH r.b r.es r.ds) []).length<=60
abbrev aId (l:List MR)(ss:List Str):Prop:=∀ r∈l,aSo r ss
theorem aTq {l:List (Int×Nat)}{ss:List Str}(h:aMt l ss):aId (l.map (vW ss)) ss:=λr hr=>by
 obtain⟨x,hx,rfl⟩:=xBc.mp hr;obtain⟨R,h5⟩:=h x hx;exact⟨⟨R.le.1,xAr R.le.2.1 (by decide),R.le.2.2⟩,R.nm,R.ap,R.kn,xAr (R.ul h5) (by decide)⟩
inductive aIe (H:Hp)(t:Addr)(r:MR):Prop
 | mk (e d m:Addr)(h0_:H t=some (.tup [.str r.b,.ref e,.ref d,.ref m]))(h1_:H e=some (.lst (r.es.map V.str)))(h2_:cN H d r.ds)(h3_:H m=some (.lst (r.mo.map V.str)))
theorem aIe.same {H H':Hp}{t:Addr}{r:MR}(R:aIe H t r)(s:aO H H'):aIe H' t r:=by
 obtain⟨e,d,m,h0,h1,h2,h3⟩:=R;exact⟨e,d,m,s _ _ h0,s _ _ h1,h2.same s,s _ _ h3⟩
structure PlA (H:Hp)(p:Addr)(l:List MR):Prop where
 ex:∃ ts:List Addr,H p=some (.lst (ts.map V.ref))/\ts.length=l.length/\∀ (i:Nat) (t:Addr) (r:MR),ts[i]?=some t->l[i]?=some r->aIe H t r
theorem PlA.same {H H':Hp}{p:Addr}{l:List MR}(M:PlA H p l)(s:aO H H'):PlA H' p l:=by
 obtain⟨qs,h0,h1,h2⟩:=M.ex;exact⟨qs,s _ _ h0,h1,λi q m a b=>(h2 i q m a b).same s⟩
theorem aRi {H:Hp}{p:Addr}{l:List (Int×Nat)}{ss:List Str}(h:pW H p l ss):PlA H p (l.map (vW ss)):=by
 obtain⟨ts,h0,h1,h2⟩:=h.ex;refine⟨ts,h0,by rw[xAa,h1],λi t r a b=>?_⟩;rw[xAg] at b;cases hx:l[i]? with
 | none=>rw[hx] at b; cases b
 | some x=>
  rw[hx] at b;cases b;obtain⟨e,d,m,r0,r1,r2,r3⟩:=h2 i t x a hx;exact⟨e,d,m,r0,r1,r2,r3⟩
theorem aXo {wk:List (Key×V)}{ss l:List Str}(hg:∀ z∈ss,dM wk (.str z)=true)(h:∀ z∈l,z∈ss):(l.map V.str).all (dM wk)=true:=xBn.mpr λy hy=>by
 obtain⟨z,hz,rfl⟩:=xBc.mp hy;exact hg z (h z hz)
inductive sU (C CM:Addr)(vs:List V)(H:Hp)(Q:VK)(E:XK):Prop
 | mk (x p:Addr)(l:List MR)(ss:List Str)(wk:List (Key×V))(h0_:vs=[.ref x,.ref p])(h1_:WAt C H x wk)(h2_:PlA H p l)(h3_:l.length<=10)(h4_:aId l ss)(h5_:∀ z∈ss,dM wk (.str z)=true)
  (h6_:∀ (D:Addr) H',aO H H'->H D=none->mJ CM H' x D (l.map MR.mw)->Q (.ref D) H')
theorem aWi:aQ ["_law_deeds","_law_plant"] ["_law_deeds","_law_plant"] (aB mY):=xfs
abbrev ndp:List Str:=["_law_begin","_law_ends","_law_doors","_law_more_here","_law_deeds"]
theorem zR {f fMI C CM:Addr}{fd fdMI:FuncData}(F:Fun K "_law_machines" "_law_machines" mY f fd)
  (GMI:aY P w K mg base (CXE P w) 4 fMI fdMI ["self","deeds","begin","ends","doors","more"] (wU K C CM))(MMk:Mk K CM fMI)(bMI:aW K fdMI ["self","deeds","begin","ends","doors","more"] [])(mMa:mg "Machine" = some (.ref CM)) :
  aY P w K mg base CX0 6 f fd ["_law_deeds","_law_plant"] (sU C CM):=by
 refine F.ok aWi (λvs H Q E h=>?_) (λcdv A outer s H vs Q E hr h=>?_)
 ·obtain⟨x,p,l,ss,wk,rfl,_⟩:=h;rfl
 ·obtain⟨x,p,l,ss,wk,rfl,hW,hP,hl,hR,hg,q⟩:=h
  refine⟨_,aL (bO (dW (N':=ndp) (nown:=4) (js:=[0]) rfl
     xbs (cF (aB mY) ["_law_deeds","_law_plant"] rfl rfl (by decide +kernel))
     ⟨λ_ _ _ _=>show PG _ _ (uX K 4 (gC (eK 0) (gC (eK 1) (gC (eK 2) (gC (eK 3) uY))))) from eC rfl (aU (aP (i:=0) (show List.Nodup ndp by decide +kernel) rfl (xAx rfl) (.inr rfl)) (aU (aP (i:=1) (show List.Nodup ndp by decide +kernel) rfl (xAx rfl) (.inr rfl)) (aU (aP (i:=2) (show List.Nodup ndp by decide +kernel) rfl (xAx rfl) (.inr rfl)) (aU (aP (i:=3) (show List.Nodup ndp by decide +kernel) rfl (xAx rfl) (.inr rfl)) dG)))),
      λ_ _ _ _=>dU,λ_ _ _ _=>pA MMk GMI hr rfl mMa bMI .nil nM (pac (pv 4) (pac (pv 0) (pac (pv 1) (pac (pv 2) (pac (pv 3) aH)))))⟩
     (cS (pv 1)))),?_⟩
  obtain⟨ts,h0,h1,h2⟩:=hP.ex;refine⟨_,rfl,p,rfl,⟨_,SqL.of h0⟩,λD hD=>gH (xs:=ts.map V.ref) (λi Z' H'=>∃ v0 v1 v2 v3,Z'=[v0,v1,v2,v3,some (.ref x)]/\mJ CM H' x D ((l.take i).map MR.mw)/\aO H H') ?_ ?_ ?_ ?_⟩
  ·exact⟨none,none,none,none,rfl,⟨[],aD,rfl,λi X m z=>nomatch z⟩,smu hD⟩
  ·rintro i Z' H' _ ⟨v0,v1,v2,v3,rfl,a1,a2⟩;exact SqL.of (a2 _ _ h0)
  ·rintro i v Z' H' hv ⟨v0,v1,v2,v3,rfl,a1,a2⟩;rw[xAg] at hv;cases ht:ts[i]? with
   | none=>rw[ht] at hv; cases hv
   | some t=>
    rw[ht] at hv;cases hv;have hi:i<l.length:=by rw[<- h1]; exact (xAc.mp ht).1
    have hx:=xAh hi;have hxm:l[i]∈l:=xCt hi;generalize l[i]=cn at hx hxm;have RO:=hR cn hxm;obtain⟨e,d,m,r0,r1,r2,r3⟩:=(h2 i t cn ht hx).same a2;refine⟨t,_,rfl,SqT.of r0,rfl,_,_,rfl,_,_,rfl,_,_,rfl,_,_,rfl,rfl,_,rfl,_,rfl,_,rfl,_,rfl,_,rfl,λX dX hX hdX _=>?_⟩;have k1:aO H' (upd (upd H' dX (.own X)) X (.ins CM dX [])):=λb o' e'=>by rw[aG (aF e' hX),aG (aF e' hdX)]; exact e'
    refine⟨X,x,e,d,dX,cn.b,.ref m,cn.es,cn.mo,cn.ds,wk,rfl,aD,fX hW (a2.trans k1),k1 _ _ r1,r2.same k1,.inr ⟨m,rfl,k1 _ _ r3⟩,RO.le,RO.nm,aXo hg RO.kn,λz hz=>nG (hg z (RO.kn z hz)),RO.ap,by rw[aEu]; exact RO.ul,λlM eM kM kvs g H5 sb M5=>⟨rfl,?_⟩⟩;have s5:aO H' H5:=λb u e'=>sb b u (aF e' hX) (k1 b u e');obtain⟨Xs,b0,b1,b2⟩:=a1.ex;rw[xAa,xAt] at b1;have b05:=s5 _ _ b0;have en:(l.take (i+1)).map MR.mw=(l.take i).map MR.mw++[cn.mw]:=by rw[xBl,hx,xAn]; rfl
    refine⟨_,b05,aR (by rw[xAa]; omega),_,_,_,_,rfl,⟨Xs++[X],by rw[aD,xAn]; rfl,by rw[en,xAj,xAj,b1,xAa,xAt]; rfl,λj Y mw hY hm=>aQc ?_ (aEr b05)⟩,λb o u=>?_⟩
    ·rw[en] at hm
     by_cases hj:j<Xs.length
     ·rw[xBf hj] at hY;rw[xBf (by rw[xAa,xAt]; omega)] at hm;exact (b2 j Y mw hY hm).same s5
     ·have hl':j=Xs.length:=by
       have:=(xAc.mp hY).1
       rw[xAj] at this;simp only[List.length_cons,List.length_nil] at this;omega
      subst hl';rw[xBh (xAi _),xDg] at hY;rw[xBh (by rw[xAa,xAt]; omega),show Xs.length-((l.take i).map MR.mw).length=0 by rw[xAa,xAt]; omega] at hm;cases hY;cases hm;exact⟨dX,lM,eM,kM,kvs,g,M5⟩
    ·rw[aG (aF u hD)];exact s5 _ _ (a2 b o u)
  ·rintro Z' H' ⟨v0,v1,v2,v3,rfl,a1,a2⟩;rw[xAa,h1,xBa] at a1;exact q D H' a2 hD a1
def mpD (b:Str)(e g k:Addr):List (Key×V):=qP [] [(Sum.inr "begin",.str b),(Sum.inr "ends",.ref e),(Sum.inr "go",.ref g),(Sum.inr "known",.ref k)]
theorem aLh (b:Str)(e g k:Addr):dC (mpD b e g k) (Sum.inr "known")=some (.ref k):=by rfl
theorem aUf (b:Str)(e g k:Addr):dC (mpD b e g k) (Sum.inr "go")=some (.ref g):=by rfl
inductive Mp (D:Addr)(H:Hp)(q:Addr)(m:MW):Prop
 | mk (e g k:Addr)(kvs:List (List Key×V))(h0_:H q=some (.dK (mpD m.b e g k)))(h1_:H e=some (.lst (m.es.map V.str)))(h2_:H g=some (.dT kvs))(h3_:DT kvs m.ds)(h4_:H k=some (.lst (m.kn.map V.str)))(h5_:e≠D)(h6_:k≠D)
theorem Mp.same {D:Addr}{H H':Hp}{q:Addr}{m:MW}(M:Mp D H q m)(s:aO H H'):Mp D H' q m:=by
 obtain⟨e,g,k,kvs,h0,h1,h2,h3,h4,h5,h6⟩:=M;exact⟨e,g,k,kvs,s _ _ h0,s _ _ h1,s _ _ h2,h3,s _ _ h4,h5,h6⟩
theorem Mp.put {D:Addr}{H:Hp}{q:Addr}{m:MW}{xs ys:List V}(M:Mp D H q m)(hD:H D=some (.lst xs)):Mp D (upd H D (.lst ys)) q m:=by
 obtain⟨e,g,k,kvs,h0,h1,h2,h3,h4,h5,h6⟩:=M;exact⟨e,g,k,kvs,by rw[aG λz=>by rw[z,hD] at h0; cases h0]; exact h0,by rw[aG h5]; exact h1,by rw[aG λz=>by rw[z,hD] at h2; cases h2]; exact h2,h3,by rw[aG h6]; exact h4,h5,h6⟩
structure gX (H:Hp)(D:Addr)(ms:List MW):Prop where
 ex:∃ qs:List Addr,H D=some (.lst (qs.map V.ref))/\qs.length=ms.length/\∀ (i:Nat) (q:Addr) (m:MW),qs[i]?=some q->ms[i]?=some m->Mp D H q m
theorem gX.same {H H':Hp}{D:Addr}{ms:List MW}(M:gX H D ms)(s:aO H H'):gX H' D ms:=by
 obtain⟨qs,h0,h1,h2⟩:=M.ex;exact⟨qs,s _ _ h0,h1,λi q m a b=>(h2 i q m a b).same s⟩
theorem gX.push {H:Hp}{D q:Addr}{ms:List MW}{m:MW}(M:gX H D ms)(R:Mp D H q m):∃ xs,H D=some (.lst xs)/\xs.length=ms.length/\gX (upd H D (.lst (xs++[.ref q]))) D (ms++[m]):=by
 obtain⟨ts,h0,h1,h2⟩:=M.ex;refine⟨_,h0,by rw[xAa,h1],⟨ts++[q],by rw[aD,xAn]; rfl,by rw[xAj,xAj,h1]; rfl,λj u y hu hy=>?_⟩⟩
 by_cases hj:j<ts.length
 ·rw[xBf hj] at hu;rw[xBf (by omega)] at hy;exact (h2 j u y hu hy).put h0
 ·have hl:j=ts.length:=by
   have:=(xAc.mp hu).1
   rw[xAj] at this;simp only[List.length_cons,List.length_nil] at this;omega
  subst hl;rw[xBh (xAi _),xDg] at hu;rw[h1,xBh (xAi _),xDg] at hy;cases hu;cases hy;exact R.put h0
inductive aIz (vs:List V)(H:Hp)(Q:VK)(E:XK):Prop
 | mk (p:Addr)(l:List MR)(ss:List Str)(h0_:vs=[.ref p])(h1_:PlA H p l)(h2_:l.length<=10)(h3_:aId l ss)(h4_:∀ (D:Addr) H',aO H H'->H D=none->gX H' D (l.map MR.mw)->Q (.ref D) H')
abbrev NMp:List Str:=["_law_plant","_law_found","_law_begin","_law_ends","_law_doors","_law_more_here","_law_go","_law_one","_law_deed","_law_other"]
theorem uT:aQ NMp ["_law_plant"] (aB aEh):=xfs
abbrev ndD:List Str:=["_law_door"]
theorem aOk {f:Addr}{fd:FuncData}(F:Fun K "_law_maps" "_law_maps" aEh f fd):aY P w K mg base CX0 1 f fd ["_law_plant"] aIz:=by
 refine F.ok uT (λvs H Q E h=>?_) (λcdv A outer s H vs Q E hr h=>?_)
 ·obtain⟨p,l,ss,rfl,_⟩:=h;rfl
 ·obtain⟨p,l,ss,rfl,hP,hl,hR,q⟩:=h;have hu:=iI hr
  refine⟨_,aK (bJ (i:=1) uT.nd rfl (xAx rfl) (cM aH))
   (aK (dI PassesOwn.never rfl (cS (pv 0)) (eC rfl (aU (aP (i:=2) uT.nd rfl (xAx rfl)) (aU (aP (i:=3) uT.nd rfl (xAx rfl)) (aU (aP (i:=4) uT.nd rfl (xAx rfl)) (aU (aP (i:=5) uT.nd rfl (xAx rfl)) dG)))))
    (aK (bJ (i:=6) uT.nd rfl (xAx rfl) tM)
    (aK (dI PassesOwn.never rfl (cS (pv 4)) (eC rfl (aU (aP (i:=7) uT.nd rfl (xAx rfl)) (aU (aP (i:=8) uT.nd rfl (xAx rfl)) (aU (aP (i:=9) uT.nd rfl (xAx rfl)) dG))))
     (aL (iL hu (pv 6) (hU (pac (pv 7) (pac (pv 8) aH))) (pv 9) rfl)))
    (aL (cW (kU xBq xCo xCn eX (pv 1) (pac (aOf (oY aS (pv 2) (oY aS (pv 3) (oY aS (pv 6) (oY aS (aX eZ (dW (N':=ndD) (nown:=1) (js:=[]) rfl
      xbs (cF (aB aEh) NMp rfl rfl (by decide +kernel))
      ⟨λ_ _ _ _=>aP (i:=0) (show List.Nodup ndD by decide +kernel) rfl (xAx rfl) (.inr rfl),λ_ _ _ _=>dU,λ_ _ _ _=>eE (show IxR _ (aTs K) from aDd) (pv 0) aN (λ_ _=>rfl)⟩
      (cS (pv 4))) (pv 5)) aOa)))) rfl rfl (λz=>nomatch z) (by show 4<=15; decide)) aH)))))))
   (aL (bO (pv 1)))),?_⟩
  obtain⟨ts,h0,h1,h2⟩:=hP.ex;refine⟨by show 0<=sizeLine; decide,λD hD=>⟨_,rfl,p,rfl,⟨_,SqL.of (smu hD _ _ h0)⟩,?_⟩⟩;refine dH (xs:=ts.map V.ref) (λi Z H'=>∃ (x2 x3 x4 x5 x6 x7 x8 x9:Option V),Z=[some (.ref p),some (.ref D),x2,x3,x4,x5,x6,x7,x8,x9]/\gX H' D ((l.take i).map MR.mw)/\aO H H') ?_ ?_ ?_ ?_
  ·exact⟨none,none,none,none,none,none,none,none,rfl,⟨[],aD,rfl,λi q m z=>nomatch z⟩,smu hD⟩
  ·rintro i Z H' _ ⟨x2,x3,x4,x5,x6,x7,x8,x9,rfl,a1,a2⟩;exact SqL.of (a2 _ _ h0)
  ·rintro i v Z H' hv ⟨x2,x3,x4,x5,x6,x7,x8,x9,rfl,a1,a2⟩;rw[xAg] at hv;cases ht:ts[i]? with
   | none=>rw[ht] at hv; cases hv
   | some t=>
    rw[ht] at hv;cases hv;have hi:i<l.length:=by rw[<- h1]; exact (xAc.mp ht).1
    have hx:=xAh hi;have hxm:l[i]∈l:=xCt hi;generalize l[i]=cn at hx hxm;have RO:=hR cn hxm;obtain⟨e,d,m,r0,r1,r2,r3⟩:=(h2 i t cn ht hx);have eD:e≠D:=aF r1 hD;have rle:=RO.le;obtain⟨us,hd,hul,hut⟩:=r2.ex;refine⟨t,_,rfl,SqT.of (a2 _ _ r0),rfl,_,_,rfl,_,_,rfl,_,_,rfl,_,_,rfl,rfl,?_⟩;intro g hg;have s3:aO H' (upd H' g (.dT [])):=smu hg;refine⟨_,rfl,d,rfl,⟨_,SqL.of (s3 _ _ (a2 _ _ hd))⟩,?_⟩;refine dH (xs:=us.map V.ref) (λi Z H3=>∃ (y7 y8 y9:Option V),Z=[some (.ref p),some (.ref D),some (.str (cn.b)),some (.ref e),some (.ref d),some (.ref m),some (.ref g),y7,y8,y9]/\(∃ kvs,H3 g=some (.dT kvs)/\DT kvs ((cn.ds).take i)/\kvs.length<=i)/\aO H' H3) ?_ ?_ ?_ ?_
    ·exact⟨_,_,_,rfl,⟨[],aD,aSu,xAi _⟩,s3⟩
    ·rintro i Z H3 _ ⟨y7,y8,y9,rfl,_,c2⟩;exact SqL.of (c2 _ _ (a2 _ _ hd))
    ·rintro i v Z H3 hv ⟨y7,y8,y9,rfl,⟨kvs',c1,c3,c4⟩,c2⟩;rw[xAg] at hv;cases hu':us[i]? with
     | none=>rw[hu'] at hv; cases hv
     | some u=>
      rw[hu'] at hv;cases hv;have hi':i<(cn.ds).length:=by rw[<- hul]; exact (xAc.mp hu').1
      have hzz:=xAh hi';generalize (cn.ds)[i]=z at hzz;refine⟨u,_,rfl,SqT.of (c2 _ _ (a2 _ _ (hut i u z hu' hzz))),rfl,_,_,rfl,_,_,rfl,_,_,rfl,rfl,?_⟩;refine⟨_,rfl,_,rfl,_,rfl,_,rfl,by show 2<=sizeLine; decide,λtt htt=>⟨g,_,rfl,oI.t (k:=[Sum.inr z.1,Sum.inr z.2.1]) (smu htt _ _ c1) aD (aR (by omega)),?_⟩⟩;refine⟨_,_,_,rfl,⟨_,aD,?_,xAr (eJ _ _ _) (xIg c4)⟩,λb o' e'=>?_⟩
      ·rw[show (cn.ds).take (i+1)=(cn.ds).take i++[z] from by rw[xBl,hzz]; rfl]
       exact aSt c3 (RO.ap.at hzz)
      ·rw[aG (aF e' hg)];exact smu htt _ _ (c2 _ _ e')
    rintro Z H3 ⟨y7,y8,y9,rfl,⟨kvs',c1,c3,c4⟩,c2⟩;rw[xAa,hul,xBa] at c3;have a23:=a2.trans c2;have a13:=a1.same c2;obtain⟨xs0,d0,_⟩:∃ xs,H3 D=some (.lst xs)/\True:=let ⟨_,e0,_⟩:=a13.ex; ⟨_,e0,trivial⟩;refine⟨_,rfl,.inl ⟨rfl,_,SqL.of d0⟩,λq5 hq5=>⟨_,rfl,_,rfl,_,rfl,_,rfl,d,rfl,⟨_,SqL.of (smu hq5 _ _ (a23 _ _ hd))⟩,λc hc=>?_⟩⟩;have s4:aO H3 (upd H3 q5 (.dK [])):=smu hq5;have e5:(upd H3 q5 (.dK [])) q5=some (.dK []):=aD;generalize upd H3 q5 (.dK [])=H4 at s4 e5 hc ⊢;refine gH (xs:=us.map V.ref) (λi Z' H5=>∃ v,Z'=[v]/\H5 c=some (.lst ((((cn.ds).take i).map (·.2.1)).map V.str))/\aO H4 H5) ?_ ?_ ?_ ?_
    ·exact⟨none,rfl,aD,smu hc⟩
    ·rintro i Z' H5 _ ⟨v,rfl,b1,b2⟩;exact SqL.of (b2 _ _ (s4 _ _ (a23 _ _ hd)))
    ·rintro i v Z' H5 hv ⟨v0,rfl,b1,b2⟩;rw[xAg] at hv;cases hu':us[i]? with
     | none=>rw[hu'] at hv; cases hv
     | some u=>
      rw[hu'] at hv;cases hv;have hi':i<(cn.ds).length:=by rw[<- hul]; exact (xAc.mp hu').1
      have hzz:=xAh hi';generalize (cn.ds)[i]=z at hzz;refine⟨_,rfl,u,_,_,.str z.2.1,rfl,rfl,SqT.of (b2 _ _ (s4 _ _ (a23 _ _ (hut i u z hu' hzz)))),rfl,_,b1,aR (by rw[xAa,xAa,xAt]; omega),_,rfl,?_,λb o' e'=>?_⟩
      ·rw[aD,xBl,hzz]
       simp
      ·rw[aG (aF e' hc)];exact b2 _ _ e'
    rintro Z' H5 ⟨v,rfl,b1,b2⟩;rw[xAa,hul,xBa] at b1;have s35:=s4.trans b2;have s05:=a23.trans s35;refine⟨_,rfl,c,m,_,_,rfl,rfl,b1,s05 _ _ r3,jI (by rw[xAa,xAa,xAa]; omega),λk hk=>?_⟩;have s6:=smu (o:=.lst (((cn.ds).map (·.2.1)).map V.str++(cn.mo).map V.str)) hk
    have e6:(upd H5 k (.lst (((cn.ds).map (·.2.1)).map V.str++(cn.mo).map V.str))) k=some (.lst ((dJ (cn.ds) (cn.mo)).map V.str)):=by
     rw[aD];unfold dJ;rw[xAn]
    generalize upd H5 k (.lst (((cn.ds).map (·.2.1)).map V.str++(cn.mo).map V.str))=H6 at s6 e6 ⊢;have s36:=s35.trans s6;have kD:k≠D:=λz=>by rw[z,s35 _ _ d0] at hk; cases hk
    have kq:k≠q5:=λz=>by rw[z,b2 _ _ e5] at hk; cases hk
    refine⟨s6 _ _ (b2 _ _ e5),[(Sum.inr "begin",.str (cn.b)),(Sum.inr "ends",.ref e),(Sum.inr "go",.ref g),(Sum.inr "known",.ref k)],rfl,by show 4<=15; decide,?_⟩;have s06:=a23.trans s36;have nq:∀ {b:Addr}{o:HO},H3 b=some o->b≠q5:=λh=>aF h hq5;have s37:aO H3 (upd H6 q5 (.dK (mpD (cn.b) e g k))):=λb o h=>by rw[aG (nq h)]; exact s36 _ _ h
    have R7:Mp D (upd H6 q5 (.dK (mpD (cn.b) e g k))) q5 (cn.mw):=⟨e,g,k,kvs',aD,s37 _ _ (a23 _ _ r1),s37 _ _ c1,c3,by rw[aG kq]; exact e6,eD,kD⟩;have s07:=a23.trans s37;obtain⟨ys,y0,y1,y2⟩:=(a13.same s37).push R7;rw[xAa,xAt] at y1;refine⟨D,ys,_,rfl,rfl,y0,aR (by omega),?_⟩;refine⟨_,_,_,_,_,_,_,_,rfl,?_,λb o u=>?_⟩
    ·have en:(l.take (i+1)).map MR.mw=(l.take i).map MR.mw++[cn.mw]:=by rw[xBl,hx,xAn]; rfl
     rw[en];exact y2
    ·rw[aG (aF u hD)];exact s07 _ _ u
  ·rintro Z H' ⟨x2,x3,x4,x5,x6,x7,x8,x9,rfl,a1,a2⟩;rw[xAa,h1,xBa] at a1;exact⟨_,rfl,q D H' a2 hD a1⟩
theorem aMd {H:Hp}{q e g k:Addr}{b:Str}(h:H q=some (.dK (mpD b e g k))):dQ H q (.str "known") (some (.ref k)):=by
 have:=dQ.k (k:=Sum.inr "known") h
 rw[aLh] at this;exact this
theorem gGo {H:Hp}{q e g k:Addr}{b:Str}(h:H q=some (.dK (mpD b e g k))):dQ H q (.str "go") (some (.ref g)):=by
 have:=dQ.k (k:=Sum.inr "go") h
 rw[aUf] at this;exact this
theorem tP {ms:List MW}{room:List Str}{y:Str}{i:Nat}{m:MW}{z:Str}(hm:ms[i]?=some m)(hz:room[i]?=some z):parts (ms.take (i+1)) (room.take (i+1)) y=parts (ms.take i) (room.take i) y++[nJ m.ds m.kn z y]:=by
 unfold parts;exact lB hm hz
theorem tQ {ms:List MW}{room:List Str}{y:Str}{i:Nat}{m:MW}{z:Str}(hm:ms[i]?=some m)(hz:room[i]?=some z):(parts ms room y)[i]?=some (nJ m.ds m.kn z y):=by
 unfold parts;rw[List.getElem?_zipWith,hm,hz]
theorem aPd {ds:List Dr}{kn:List Str}{z y:Str}(h:nJ ds kn z y=none):y∈kn:=by
 unfold nJ at h
 by_cases q:y∈kn
 ·exact q
 ·rw[xAy q] at h; cases h
theorem aIg {ms:List MW}{room:List Str}{y:Str}{i:Nat}{m:MW}{z:Str}(hm:ms[i]?=some m)(hz:room[i]?=some z)(hk:y∈m.kn)(h:nJ m.ds m.kn z y=none):wto ms room y=none:=by
 unfold wto aBe;rw[xBe (show y∈wkn ms from xDe.mpr ⟨m,xAu hm,hk⟩),xBe (xEz.mpr ⟨none,xAu (by rw[tQ hm hz,h]),rfl⟩)]
theorem aIf {ms:List MW}{room:List Str}{y:Str}{fs:List Str}(hk:y∈wkn ms)(h:parts ms room y=fs.map some):wto ms room y=some fs:=by
 unfold wto aBe;rw[xBe hk,h,xAy (by simp),xDx];exact congrArg some (List.map_id fs)
inductive aBo (K:xAd)(vs:List V)(H:Hp)(Q:VK)(E:XK):Prop
 | mk (D t:Addr)(ms:List MW)(room:List Str)(y:Str)(h0_:vs=[.ref D,.ref t,.str y])(h1_:gX H D ms)(h2_:SqT K H t (room.map V.str))(h3_:ms.length=room.length)(h4_:ms.length<=10)(h5_:aAz H Q (wto ms room y))
abbrev NSt:List Str:=["_law_maps_here","_law_room","_law_deed","_law_found","_law_many","_law_k","_law_one"]
theorem aBs:aQ NSt ["_law_maps_here","_law_room","_law_deed"] (aB aJn):=xfs
theorem aOh {f:Addr}{fd:FuncData}(F:Fun K "_law_step" "_law_step" aJn f fd)(T:Txt K mg)(mT:mg "tuple" = none):aY P w K mg base CX0 1 f fd ["_law_maps_here","_law_room","_law_deed"] (aBo K):=by
 refine F.ok aBs (λvs H Q E h=>?_) (λcdv A outer s H vs Q E hr h=>?_)
 ·obtain⟨D,t,ms,room,y,rfl,_⟩:=h;rfl
 ·obtain⟨D,t,ms,room,y,rfl,M,hT,hlen,hl,q⟩:=h;have hu:=iI hr
  refine⟨_,aK (bJ (i:=3) aBs.nd rfl (xAx rfl) (cM aH))
   (aK (bJ (i:=4) aBs.nd rfl (xAx rfl) aN)
   (aK (dI PassesOwn.never rfl (gN rfl T.range (pac (cC cZ (by rfl) T.len Bo.len (pac (pv 0) aH)) aH)) (aP (i:=5) aBs.nd rfl (xAx rfl))
    (aK (bJ (i:=6) aBs.nd rfl (xAx rfl) (eE aDd (pv 1) (pv 5) (λ_ _=>rfl)))
    (aK (dR (cB (show OpR _ _ (rIn K false) from qJ) (pv 2) (eB hu (eE cY (pv 0) (pv 5) (λ_ _=>rfl)) aS (λ_ _=>rfl)) (by with_unfolding_all rfl))
     (aK (bJ (i:=4) aBs.nd rfl (xAx rfl) (aX dY (pv 4) aN))
     (aL (bJ (i:=6) aBs.nd rfl (xAx rfl) (tN hu (eB hu (eE cY (pv 0) (pv 5) (λ_ _=>rfl)) aS (λ_ _=>rfl)) (hU (pac (eE aDd (pv 1) (pv 5) (λ_ _=>rfl)) (pac (pv 2) aH))) ⟨by rfl,by rfl,by rfl,by rfl⟩)))) cG)
    (aK (dR (cB aKo (pv 6) jJ (cO _)) (aL (bO jJ)) cG)
    (aL (cW (kU xBq xCo xCn eX (pv 3) (pac (pv 6) aH))))))))
   (aK (dR (cB pC (pv 4) aN (cO _)) (aL (bO jJ)) cG)
   (aL (bO (eG iE (by rfl) mT Bo.tuple (pac (pv 3) aH))))))),?_⟩
  obtain⟨qs,h0,h1,h2⟩:=M.ex;refine⟨by show 0<=sizeLine; decide,λFd hF=>⟨_,rfl,D,_,rfl,.inl (SqL.of (smu hF _ _ h0)),_,rfl,by rw[xAa]; omega,by rw[xAa]; omega,?_⟩⟩;refine qW (n:=((qs.map V.ref).length:Int).toNat) (λi Z H'=>∃ (x5 x6:Option V) (fs:List Str) (n:Nat),Z=[some (.ref D),some (.ref t),some (.str y),some (.ref Fd),some (.int n),x5,x6]/\H' Fd=some (.lst (fs.map V.str))/\parts (ms.take i) (room.take i) y=fs.map some/\(n=0↔y∉wkn (ms.take i))/\aO H H') ?_ ?_ ?_
  ·exact⟨none,none,[],0,rfl,aD,rfl,⟨λ_ z=>(nomatch z),λ_=>rfl⟩,smu hF⟩
  ·rintro i Z H' hi ⟨x5,x6,fs,n,rfl,a1,b1,b2,a2⟩;rw[xAa] at hi;have hiq:i<qs.length:=by omega
   have hq:=xAh hiq;generalize qs[i]=q' at hq;have him:i<ms.length:=by omega
   have hm:=xAh him;generalize ms[i]=m at hm;have hir:i<room.length:=by omega
   have hz:=xAh hir;generalize room[i]=z at hz
   have fl:fs.length=i:=by
    have:=congrArg List.length b1
    unfold parts at this;rw[xEl,xAt,xAt,xAa] at this;omega
   obtain⟨e,g,k,kvs,m0,m1,m2,m3,m4,_,_⟩:=(h2 i q' m hq hm).same a2;have hT':=lF hT a2;have aq:atI (qs.map V.ref) (0+(i:Int))=some (.ref q'):=by rw[xDy]; exact iF (by rw[xAg,hq]; rfl)
   have az:atI (room.map V.str) (0+(i:Int))=some (.str z):=by rw[xDy]; exact iF (by rw[xAg,hz]; rfl)
   refine⟨_,rfl,_,rfl,t,_,_,.str z,rfl,rfl,hT',az,?_⟩;refine⟨_,rfl,_,rfl,_,rfl,D,_,_,.ref q',rfl,rfl,SqL.of (a2 _ _ h0),aq,q',_,rfl,aMd m0,k,_,rfl,.inl (SqL.of m4),rfl,by rw[xHj]; exact xBn.mpr λ_ _=>rfl,decide (y∈m.kn),congrArg V.bl (xP y m.kn),?_⟩
   by_cases hk:y∈m.kn
   ·rw[xAv hk];refine jR ⟨_,rfl,_,_,rfl,rfl,?_⟩;refine⟨_,rfl,_,rfl,D,_,_,.ref q',rfl,rfl,SqL.of (a2 _ _ h0),aq,q',_,rfl,gGo m0,g,rfl,.inr ⟨_,.inl m2⟩,_,rfl,_,rfl,t,_,_,.str z,rfl,rfl,hT',az,_,rfl,by show 2<=sizeLine; decide,λtt htt=>?_⟩;have s3:aO H' (upd H' tt (.tup [.str z,.str y])):=smu htt;have gt:=dQ.t (k:=[Sum.inr z,Sum.inr y]) (s3 _ _ m2) (show (upd H' tt (.tup [.str z,.str y])) tt=some (.tup ([Sum.inr z,Sum.inr y].map kV)) from aD)
    rw[m3] at gt;refine⟨_,gt,?_⟩;have eo:((gT m.ds z y).map V.str).getD .non=oV (nJ m.ds m.kn z y):=by unfold nJ; rw[xBe hk]; rfl
    rw[eo];generalize upd H' tt (.tup [.str z,.str y])=H3 at s3 ⊢;have a23:=a2.trans s3;refine⟨_,rfl,rfl,_,rfl,?_⟩;cases ho:nJ m.ds m.kn z y with
    | none=>
     have hk':y∈m.kn:=aPd ho;rw[aIg hm hz hk' ho] at q
     skip
     exact jR (q _ a23)
    | some u=>
     skip
     refine gP ⟨_,rfl,.inl ⟨rfl,_,SqL.of (s3 _ _ a1)⟩,_,rfl,Fd,_,_,rfl,rfl,s3 _ _ a1,aR (by rw[xAa,fl]; omega),?_⟩;refine⟨_,_,fs++[u],n+1,rfl,by rw[aD,xAn]; rfl,by rw[tP hm hz,ho,b1,xAn]; rfl,⟨λz=>by omega,λz=>xBg ((sH hm y).mpr (.inr hk)) z⟩,λb o e=>?_⟩;rw[aG (aF e hF)];exact a23 _ _ e
   ·rw[xBj hk];refine gP ?_;have eo:nJ m.ds m.kn z y=some z:=by unfold nJ; rw[xAy hk]
    refine⟨_,rfl,rfl,_,rfl,gP ⟨_,rfl,.inl ⟨rfl,_,SqL.of a1⟩,_,rfl,Fd,_,_,rfl,rfl,a1,aR (by rw[xAa,fl]; omega),?_⟩⟩;refine⟨_,_,fs++[z],n,rfl,by rw[aD,xAn]; rfl,by rw[tP hm hz,eo,b1,xAn]; rfl,?_,λb o e=>?_⟩
    ·rw[b2,sH hm y];exact⟨λh h'=>h'.elim h hk,λh h'=>h (.inl h')⟩
    ·rw[aG (aF e hF)];exact a2 _ _ e
  ·rintro Z H' ⟨x5,x6,fs,n,rfl,a1,b1,b2,a2⟩;have e1:ms.take ((qs.map V.ref).length:Int).toNat=ms:=by rw[xAa,xDt (by omega)]
   have e2:room.take ((qs.map V.ref).length:Int).toNat=room:=by rw[xAa,xDt (by omega)]
   rw[e1,e2] at b1;rw[e1] at b2;refine⟨_,rfl,rfl,_,rfl,fU (λh=>?_) (λh=>?_)⟩
   ·have hn:n=0:=by have:=V.int.inj (xAp h); omega
    have e:wto ms room y=none:=by unfold wto; rw[xAy (b2.mp hn)]
    rw[e] at q;exact q H' a2
   ·have hk:y∈wkn ms:=Classical.byContradiction λz=>h (xAv (by rw[b2.mpr z]; rfl));rw[aIf hk b1] at q;exact⟨_,rfl,Fd,_,rfl,.inl ⟨SqL.of a1,λl hl'=>q l _ (a2.trans (smu hl')) (a2.free hl') aD⟩⟩
def gL:List (List Str)->List (List Str)->List (List Str)
 | rs,[]=>rs
 | rs,r::fs=>gL (if r∈rs then rs else rs++[r]) fs
def gE (F:List Str->List (List Str)):Nat->List (List Str)->Nat->List (List Str)
 | 0,rs,_=>rs
 | n+1,rs,i=>if i<rs.length/\rs.length<=60 then gE F n (gL rs (F (rs.getD i []))) (i+1) else rs
theorem qX {F:List Str->List (List Str)}{n i:Nat}{rs:xLL}(h:¬ (i<rs.length/\rs.length<=60)):gE F n rs i=rs:=by
 cases n with
 | zero=>rfl
 | succ n=>unfold gE; rw[xAy h]
theorem aFg {F:List Str->List (List Str)}{i:Nat}{rs:xLL}{r:List Str}(h1:rs[i]?=some r)(h2:rs.length<=60):gE F (61-i) rs i=gE F (61-(i+1)) (gL rs (F r)) (i+1):=by
 have hi:=(xAc.mp h1).1;rw[show 61-i=(61-(i+1))+1 by omega];show (if _ then _ else _)=_
 rw[xBe ⟨hi,h2⟩,xCk,h1];rfl
theorem qZ:∀ {fs rs:xLL}{r:List Str},gL rs (fs++[r])=if r∈gL rs fs then gL rs fs else gL rs fs++[r]
 | [],_,_=>rfl
 | _::fs,_,_=>qZ (fs:=fs)
theorem pU:∀ {fs rs:xLL},(gL rs fs).length<=rs.length+fs.length
 | [],_=>xAi _
 | r::fs,rs=>by
  refine xAr (pU (fs:=fs)) ?_;rw[xBd]
  by_cases h:r∈rs
  ·rw[xBe h]; omega
  ·rw[xAy h,xAj,xHi]; omega
theorem lZ:∀ {fs rs:xLL}{r:List Str},r∈gL rs fs->r∈rs\/r∈fs
 | [],_,_,h=>.inl h
 | x::fs,rs,r,h=>by
  rcases lZ (fs:=fs) h with h | h
  ·by_cases q:x∈rs
   ·rw[xBe q] at h; exact .inl h
   ·rw[xAy q] at h;rcases xCp.mp h with h | h
    ·exact .inl h
    ·exact .inr (by rw[xBb.mp h]; exact xBk ..)
  ·exact .inr (xBi _ h)
structure uO (H:Hp)(l:Addr)(fs:List (Str×List Str)):Prop where
 ex:∃ ts:List Addr,H l=some (.lst (ts.map V.ref))/\ts.length=fs.length/\∀ (i:Nat) (t:Addr) (p:Str×List Str),ts[i]?=some t->fs[i]?=some p->∃ u,H t=some (.tup [.str p.1,.ref u])/\H u=some (.tup (p.2.map V.str))
theorem uO.same {H H':Hp}{l:Addr}{fs:List (Str×List Str)}(M:uO H l fs)(s:aO H H'):uO H' l fs:=by
 obtain⟨qs,h0,h1,h2⟩:=M.ex;exact⟨qs,s _ _ h0,h1,λi q m a b=>let ⟨u,x,y⟩:=h2 i q m a b; ⟨u,s _ _ x,s _ _ y⟩⟩
def aMr (H:Hp)(fs:List (Str×List Str))(Q:VK):Prop:=∀ (l:Addr) H',aO H H'->H l=none->uO H' l fs->Q (.ref l) H'
def dF (ms:List MW)(ts:List Str)(room:List Str):List (Str×List Str):=ts.map λz=>(z,(wto ms room z).getD [])
def jL (ms:List MW)(S:List Str)(room:List Str):List Str:=S.filter λz=>(wto ms room z).isSome
theorem aFc {ms:List MW}{room:List Str}:∀ (S:List Str),(dF ms (jL ms S room) room).map (·.2)=S.filterMap (wto ms room)
 | []=>rfl
 | z::S=>by
  have ih:=aFc (ms:=ms) (room:=room) S;unfold jL dF at ih ⊢;cases h:wto ms room z with
  | none=>rw[List.filter_cons_of_neg (by rw[h]; simp),xJa h]; exact ih
  | some r=>rw[List.filter_cons_of_pos (by rw[h]; rfl),xIz h,xCd,xCd,ih,h]; rfl
theorem aIh {ms:List MW}{room:List Str}{z:Str}(h:(wto ms room z).isSome=true):z∈wkn ms:=by
 unfold wto at h
 by_cases q:z∈wkn ms
 ·exact q
 ·rw[xAy q] at h; cases h
inductive rW (K:xAd)(C CM CW:Addr)(vs:List V)(H:Hp)(Q:VK)(E:XK):Prop
 | mk (v x t:Addr)(ms:List MW)(room S:List Str)(wk:List (Key×V))(h0_:vs=[.ref v,.ref t])(h1_:Wv CM CW H v x ms)(h2_:H t=some (.tup (room.map V.str)))(h3_:ROk ms room)(h4_:1<=ms.length/\ms.length<=100)(h5_:WAt C H x wk)(h6_:∀ z∈wkn ms,z∈S)(h7_:S.length<64)(h8_:∀ z∈S,dM wk (.str z)=true)
  (h9_:xBr S=true)(h10_:S.Nodup)(h11_:aMr H (dF ms (jL ms S room) room) Q)
theorem aVz:aQ ["self","room"] ["self","room"] (aB aDs):=xfs
theorem aKp {f fA fT C CM CW cD:Addr}{fd fdA fdT:FuncData}(F:Fun K "ways" "Woven.ways" aDs f fd)(WC:rU K CW)
  (GA:aY P w K mg base CX0 5 fA fdA ["self","room"] (aPy K C CM CW))(bA:aW K fdA ["self","room"] [])(mA:fV K CW "at" fA)
  (GT:aY P w K mg base (CXE P w) 4 fT fdT ["self","room","deed"] (aDz K C CM CW cD))(bT:aW K fdT ["self","room","deed"] [])(mT:fV K CW "to" fT) :
  aY P w K mg base CX0 6 f fd ["self","room"] (rW K C CM CW):=by
 refine F.ok aVz (λvs H Q E h=>?_) (λcdv A outer s H vs Q E hr h=>?_)
 ·obtain⟨v,x,t,ms,room,S,wk,rfl,_⟩:=h;rfl
 ·obtain⟨v,x,t,ms,room,S,wk,rfl,W,hT,R,hl,hW,hN,h64,hg,so,nd,q⟩:=h
  refine⟨_,aL (bO (dW (N':=ndw) (nown:=1) (js:=[0,1]) rfl
     xbs (cF (aB aDs) ["self","room"] rfl rfl (by decide +kernel))
     ⟨λ_ _ _ _=>aP (i:=0) (show List.Nodup ndw by decide +kernel) rfl (xAx rfl) (.inr rfl),λ_ _ _ _=>dU,
      λ_ _ _ _=>hU (pac (pv 0) (pac (eA (pv 1) WC.cl mT GT (hr.mono (by decide)) bT .nil nM (pac (pv 2) (pac (pv 0) aH))) aH))⟩
     (cS (eA (pv 0) WC.cl mA GA hr bA .nil cA (pac (pv 1) aH))))),?_⟩
  obtain⟨dv,lm,lk,kn,hi,M,hk,hkn⟩:=id W;refine⟨_,rfl,v,dv,_,rfl,hi,dN _ _ _ (by decide),_,rfl,v,x,t,ms,room,S,wk,rfl,W,SqT.of hT,R,hl,hW,hN,h64,hg,λl ts H2 s2 n2 g2 S2=>⟨l,rfl,⟨_,SqL.of g2⟩,λD hD=>?_⟩⟩;have ets:ts=jL ms S room:=S2.one (q:=λz=>z∈S/\(wto ms room z).isSome=true) ⟨nL so,nd.filter _,λz=>xCc⟩ λz=>⟨λh=>⟨hN z h.1,h.2⟩,λh=>⟨aIh h.2,h.2⟩⟩;rw[<- ets] at q;have lts:ts.length<64:=xBt (by rw[ets]; exact xCw ..) h64;refine gH (xs:=ts.map V.str) (λi Z' H'=>∃ v0,Z'=[v0,some (.ref v),some (.ref t)]/\uO H' D (dF ms (ts.take i) room)/\aO H2 H') ?_ ?_ ?_ ?_
  ·exact⟨none,rfl,⟨[],aD,rfl,λi t p z=>nomatch z⟩,smu hD⟩
  ·rintro i Z' H' _ ⟨v0,rfl,a1,a2⟩;exact SqL.of (a2 _ _ g2)
  ·rintro i u Z' H' hv ⟨v0,rfl,a1,a2⟩;rw[xAg] at hv;cases hz:ts[i]? with
   | none=>rw[hz] at hv; cases hv
   | some z=>
    rw[hz] at hv;cases hv;have sA:=s2.trans a2;have hzk:=(S2.mem z).mp (xAu hz);have gz:=hg z (hN z hzk.1);refine⟨_,rfl,_,rfl,v,dv,_,rfl,sA _ _ hi,dN _ _ _ (by decide),_,rfl,_,rfl,v,x,t,.str z,ms,room,wk,rfl,W.same sA,SqT.of (sA _ _ hT),R,hl,fX hW sA,.inl ⟨z,rfl,nG gz⟩,λ_ u' eu=>?_,λbad=>xBg (gz.symm.trans bad) (by decide)⟩;cases eu;cases ho:wto ms room z with
    | none=>rw[ho] at hzk; cases hzk.2
    | some ss=>
     intro l3 H3 s3 n3 e3;refine⟨by show 2<=sizeLine; decide,λtt htt=>?_⟩;have s4:=s3.trans (smu (o:=.tup [.str z,.ref l3]) htt);have e3':=smu (o:=.tup [.str z,.ref l3]) htt _ _ e3;have eT:(upd H3 tt (.tup [.str z,.ref l3])) tt=some (.tup [.str z,.ref l3]):=aD;generalize upd H3 tt (.tup [.str z,.ref l3])=H4 at s4 e3' eT ⊢;obtain⟨us,b0,b1,b2⟩:=(a1.same s4).ex;have ew:dF ms (ts.take (i+1)) room=dF ms (ts.take i) room++[(z,ss)]:=by unfold dF; rw[xBl,hz,xAn,Option.toList_some,List.map_singleton,ho]; rfl
     have lw:(dF ms (ts.take i) room).length<=63:=by unfold dF; rw[xAa,xAt]; omega
     refine⟨_,b0,aR (by rw[xAa]; omega),_,rfl,⟨us++[tt],by rw[aD,xAn]; rfl,by rw[ew,xAj,xAj,b1]; rfl,λj y p hy hp=>?_⟩,λb o e=>?_⟩
     ·have nt:∀ {b:Addr}{xs:List V},H4 b=some (.tup xs)->(upd H4 D (.lst (us.map V.ref++[.ref tt]))) b=some (.tup xs):=λ{b xs} e=>by
       rw[aG (λz=>by rw[z,b0] at e; cases e)];exact e
      rw[ew] at hp
      by_cases hj:j<us.length
      ·rw[xBf hj] at hy;rw[xBf (by omega)] at hp;obtain⟨u,k1,k2⟩:=b2 j y p hy hp;exact⟨u,nt k1,nt k2⟩
      ·have hl':j=us.length:=by
        have:=(xAc.mp hy).1
        rw[xAj] at this;simp only[List.length_cons,List.length_nil] at this;omega
       subst hl';rw[xBh (xAi _),xDg] at hy;rw[b1,xBh (xAi _),xDg] at hp;cases hy;cases hp;exact⟨l3,nt eT,nt e3'⟩
     ·rw[aG (aF e hD)];exact s4 _ _ (a2 b o e)
  ·rintro Z' H' ⟨v0,rfl,a1,a2⟩;rw[xAa,xBa] at a1;exact q D H' (s2.trans a2) (s2.free hD) a1
inductive yP (cT:Addr)(df:Addr)(spD:Sp)(vs:List V)(H:Hp)(Q:VK)(E:XK):Prop
 | mk (t:Addr)(b:List Str)(Fp:List Str->List (Str×List Str))(Ok:List Str->Prop)(h0_:vs=[.ref t,.ref df,.int 60])(h1_:H t=some (.tup (b.map V.str)))(h2_:Ok b)(h3_:∀ r,Ok r->∀ p∈Fp r,Ok p.2)(h4_:∀ r,Ok r->(Fp r).length<=64)
  (h5_:∀ (r:List Str) (t':Addr) H' Q',aO H H'->Ok r->H' t'=some (.tup (r.map V.str))->aMr H' (Fp r) Q'->spD [.ref t'] H' Q' E)
  (h6_:(gE (λr=>(Fp r).map (·.2)) 61 [b] 0).length<=60->∀ (d:Addr) (kvs:List (List Key×V)) H',aO H H'->H d=none->H' d=some (.dT kvs)->kvs.map (·.1)=(gE (λr=>(Fp r).map (·.2)) 61 [b] 0).map (λr=>r.map Sum.inr)->Q (.ref d) H')
  (h7_:60<(gE (λr=>(Fp r).map (·.2)) 61 [b] 0).length->∀ H',aO H H'->E (.ref cT) none H')
inductive yR (cT:Addr)(df:Addr)(spD:Sp)(vs:List V)(H:Hp)(Q:VK)(E:XK):Prop
 | mk (t:Addr)(b:List Str)(Fp:List Str->List (Str×List Str))(Ok:List Str->Prop)(h0_:vs=[.ref t,.ref df,.int 60])(h1_:H t=some (.tup (b.map V.str)))(h2_:Ok b)(h3_:∀ r,Ok r->∀ p∈Fp r,Ok p.2)(h4_:∀ r,Ok r->(Fp r).length<=64)
  (h5_:∀ (r:List Str) (t':Addr) H' Q',aO H H'->Ok r->H' t'=some (.tup (r.map V.str))->aMr H' (Fp r) Q'->spD [.ref t'] H' Q' E)
  (h6_:(gE (λr=>(Fp r).map (·.2)) 61 [b] 0).length<=60->∀ (l:Addr) (bs:List Addr) H',aO H H'->H l=none->H' l=some (.lst (bs.map V.ref))->gA H' bs (gE (λr=>(Fp r).map (·.2)) 61 [b] 0)->Q (.ref l) H')
  (h7_:60<(gE (λr=>(Fp r).map (·.2)) 61 [b] 0).length->∀ H',aO H H'->E (.ref cT) none H')
structure RT (H H':Hp)(d R:Addr)(rs:xLL)(n:Nat):Prop where
 ex:∃ (kvs:List (List Key×V)) (bs:List Addr),H' d=some (.dT kvs)/\kvs.map (·.1)=rs.map (λr=>r.map Sum.inr)/\H' R=some (.lst (bs.map V.ref))/\gA H' bs rs/\∀ kv∈kvs,∃ (l:Addr) (row:List Str),kv.2=.ref l/\H' l=some (.lst (row.map V.str))/\row.length<=n/\l≠R
 sm:aO H H'
 nd:H d=none
 nR:H R=none
theorem xO:∀ {ss ts:List Str},ss.map (Sum.inr:Str->Key)=ts.map Sum.inr->ss=ts
 | [],[],_=>rfl
 | [],_::_,h=>by cases h
 | _::_,[],h=>by cases h
 | a::ss,b::ts,h=>by
  have h':=xGx h;rw[Sum.inr.inj h'.1,xO h'.2]
theorem tV {kvs:List (List Key×V)}{rs:xLL}(h:kvs.map (·.1)=rs.map (λr=>r.map Sum.inr))(r:List Str):(dC kvs (r.map Sum.inr)).isSome=decide (r∈rs):=by
 rw[<- gR,xEi,xEz,xDa];constructor
 ·rintro⟨x,hx,e⟩
  have:x.1∈kvs.map (·.1):=xBc.mpr ⟨x,hx,rfl⟩
  rw[h,xAp e] at this;obtain⟨y,hy,ey⟩:=xBc.mp this;rw[<- xO ey];exact hy
 ·intro hr
  have:r.map Sum.inr∈kvs.map (·.1):=by rw[h]; exact xBc.mpr ⟨r,hr,rfl⟩
  obtain⟨x,hx,e⟩:=xBc.mp this;exact⟨x,hx,xAv e⟩
theorem xH {kvs:List (List Key×V)}{k:List Key}{v:V}(h:(dC kvs k).isSome=false):eY kvs k v=kvs++[(k,v)]:=by
 unfold eY;rw[gR,h];rfl
theorem gK (r:List Str):(r.map Sum.inr).map kV=r.map V.str:=by rw[xDx]; rfl
theorem aNs {kvs:List (List Key×V)}{rs:xLL}{Pv:V->Prop}(h:kvs.map (·.1)=rs.map (λr=>r.map Sum.inr))(h5:∀ kv∈kvs,Pv kv.2){r:List Str}(hr:r∈rs):∃ v,dC kvs (r.map Sum.inr)=some v/\Pv v:=by
 have e:=tV h r;rw[xAv hr] at e;obtain⟨v,hv⟩:=xCv.mp e;refine⟨v,hv,?_⟩;unfold dC at hv;obtain⟨kv,hf,rfl⟩:=xDs.mp hv;exact h5 kv (xGl hf)
theorem jS:∀ {fs rs:xLL}{r:List Str},r∈rs->r∈gL rs fs
 | [],_,_,h=>h
 | x::fs,rs,r,h=>jS (fs:=fs) (by
  by_cases q:x∈rs
  ·rw[xBe q]; exact h
  ·rw[xAy q]; exact xDk _ h)
theorem sE:∀ {fs rs:xLL},rs.length<=(gL rs fs).length
 | [],_=>xAi _
 | x::fs,rs=>xAr (by
  by_cases q:x∈rs
  ·rw[xBe q]; exact xAi _
  ·rw[xAy q,xAj]; omega) (sE (fs:=fs))
theorem RT.same {H H' H2:Hp}{d R:Addr}{rs:xLL}{n:Nat}(h:RT H H' d R rs n)(s:aO H' H2):RT H H2 d R rs n:=by
 obtain⟨⟨kvs,bs,e1,e2,e3,e4,e5⟩,sm,nd,nR⟩:=h;exact⟨⟨kvs,bs,s _ _ e1,e2,s _ _ e3,e4.same λb xs e=>s _ _ e,λkv hk=>let ⟨l,row,k1,k2,k3,k4⟩:=e5 kv hk; ⟨l,row,k1,s _ _ k2,k3,k4⟩⟩,sm.trans s,nd,nR⟩
theorem RT.more {H H':Hp}{d R:Addr}{rs:xLL}{n m:Nat}(h:RT H H' d R rs n)(hm:n<=m):RT H H' d R rs m:=by
 obtain⟨⟨kvs,bs,e1,e2,e3,e4,e5⟩,sm,nd,nR⟩:=h;exact⟨⟨kvs,bs,e1,e2,e3,e4,λkv hk=>let ⟨l,row,k1,k2,k3,k4⟩:=e5 kv hk; ⟨l,row,k1,k2,xAr k3 hm,k4⟩⟩,sm,nd,nR⟩
abbrev NRT:List Str:=["begin","doors","most","rows","rooms","place","room","deed","far"]
theorem yX:aQ NRT ["begin","doors","most"] (aB wZ):=xfs
theorem aGr {f cT:Addr}{fd:FuncData}{kd:Nat}(F:Fun K "rows_to" "rows_to" wZ f fd)(T:Txt K mg)(mTM:mg "TooMany" = some (.ref cT))(xTM:yC K cT) :
  uQ P w K mg base (kd+1) f fd ["begin","doors","most"] (SpH P w K mg base kd (yP cT)):=by
 refine okS F yX (λo s vs H Q E h=>?_) (λcdv A outer s H vs Q E hr h D=>?_)
 ·obtain⟨df,spD,_,t,b,Fp,Ok,rfl,_⟩:=h;rfl
 ·obtain⟨df,spD,hd,t,b,Fp,Ok,rfl,hT,hok,h3,h4,h5,q6,q7⟩:=h;have hu:=iI hr
  refine⟨_,aK (bJ (i:=3) yX.nd rfl (xAx rfl) (aKe (xHz hu) (pv 0) (cM aH)))
   (aK (bJ (i:=4) yX.nd rfl (xAx rfl) (cM (pac (pv 0) aH)))
   (aK (bJ (i:=5) yX.nd rfl (xAx rfl) aN)
   (aK (zI PassesOwn.leaving (cB aKn (pv 5) (cC cZ (by rfl) T.len Bo.len (pac (pv 4) aH)) (cO _))
    (aK (bJ (i:=6) yX.nd rfl (xAx rfl) (eE cY (pv 4) (pv 5) (λ_ _=>rfl)))
    (aK (dI PassesOwn.leaving rfl (cS (aGj (i:=1) (sp:=spD) (E:=E) rfl (by rfl) (D.passes λ_ _ _ z=>z) hr (λ_ _ _ _ I=>hd.later (aQi I)) (pv 6))) (eC rfl (aU (aP (i:=7) yX.nd rfl (xAx rfl)) (aU (aP (i:=8) yX.nd rfl (xAx rfl)) dG)))
     (aL (dR (qF (qH hu (pv 8) (pv 3)))
      (aK (iL hu (pv 3) (pv 8) (aX eZ (eB hu (pv 3) (pv 6) (λ_ _=>rfl)) (cM (pac (pv 7) aH))) rfl)
      (aL (cW (kU xBq xCo xCn eX (pv 4) (pac (pv 8) aH))))) cG)))
    (aK (dR (cB rE (cC cZ (by rfl) T.len Bo.len (pac (pv 4) aH)) (pv 2) (cO _)) (aL (iH D rfl (by rfl) mTM xTM (pac (zN aS (aEo (pv 2)) aS) aH))) cG)
    (aL (bJ (i:=5) yX.nd rfl (xAx rfl) (aX dY (pv 5) aN)))))))
   (aL (bO (pv 3)))))),?_⟩
  intro d hd0;refine⟨_,rfl,by show 0<=sizeLine; decide,λl0 hl0=>?_⟩;have dl0:d≠l0:=λz=>by rw[<- z,aD] at hl0; cases hl0
  have k1:aO H (upd (upd H d (.dT [])) l0 (.lst [])):=(smu hd0).trans (smu hl0);have nl0:H l0=none:=(smu hd0).free hl0;have ed:(upd (upd H d (.dT [])) l0 (.lst [])) d=some (.dT []):=by rw[aG dl0,aD]
  have el:(upd (upd H d (.dT [])) l0 (.lst [])) l0=some (.lst []):=aD;generalize upd (upd H d (.dT [])) l0 (.lst [])=H1 at k1 ed el ⊢;refine⟨ed,t,b.map Sum.inr,rfl,by rw[gK]; exact k1 _ _ hT,?_⟩;have k2:aO H (upd H1 d (.dT [(b.map Sum.inr,.ref l0)])):=λc o e=>by rw[aG (aF e hd0)]; exact k1 _ _ e
  have ed2:(upd H1 d (.dT [(b.map Sum.inr,.ref l0)])) d=some (.dT [(b.map Sum.inr,.ref l0)]):=aD;have el2:(upd H1 d (.dT [(b.map Sum.inr,.ref l0)])) l0=some (.lst []):=by rw[aG (Ne.symm dl0)]; exact el
  generalize upd H1 d (.dT [(b.map Sum.inr,.ref l0)])=H2 at k2 ed2 el2 ⊢;refine⟨_,rfl,by show 1<=sizeLine; decide,λR hR=>?_⟩;have k3:aO H2 (upd H2 R (.lst [.ref t])):=smu hR;have eR:(upd H2 R (.lst [.ref t])) R=some (.lst ([t].map V.ref)):=aD;have nR:H R=none:=k2.free hR;have lR:l0≠R:=λz=>by rw[z,hR] at el2; cases el2
  generalize upd H2 R (.lst [.ref t])=H3 at k3 eR ⊢;have rt0:RT H H3 d R [b] 0:=⟨⟨_,[t],k3 _ _ ed2,rfl,eR,.cons ((k2.trans k3) _ _ hT) .nil,λkv hk=>⟨l0,[],by rw[xBb.mp hk],k3 _ _ el2,xAi _,lR⟩⟩,k2.trans k3,hd0,nR⟩;clear k1 ed el k2 ed2 el2 k3 eR hR hl0 nl0;generalize hF:(λr=>(Fp r).map (·.2))=Fr at *;have hFr:∀ r,Fr r=(Fp r).map (·.2):=λr=>by rw[<- hF]
  clear hF
  refine⟨λm Z H'=>∃ (i:Nat) (rs:xLL) (x6 x7 x8:Option V),m=61-i/\Z=[some (.ref t),some (.ref df),some (.int 60),some (.ref d),some (.ref R),some (.int i),x6,x7,x8]/\RT H H' d R rs (64*i)/\i<=rs.length/\rs.length<=60/\(∀ r∈rs,Ok r)/\gE Fr 61 [b] 0=gE Fr (61-i) rs i,
   ⟨61,0,[b],none,none,none,rfl,rfl,rt0,xCa _,(by show 1<=60; decide),λr hr=>by rw[xBb.mp hr]; exact hok,rfl⟩,?_⟩
  rintro m Z H' ⟨i,rs,x6,x7,x8,rfl,rfl,rt,hi,h60,hOk,hc⟩;obtain⟨⟨kvs,bs,e1,e2,e3,e4,e5⟩,sm,nd,_⟩:=id rt;have lbs:bs.length=rs.length:=Paired.length e4;refine⟨_,rfl,_,rfl,R,_,rfl,.inl (SqL.of e3),_,_,rfl,rfl,_,rfl,fU (λhlt=>?_) (λhge=>?_)⟩
  rotate_left
  ·have hin:¬ i<rs.length:=λz=>hge (xAv (by rw[xAa]; omega));rw[qX (λz=>hin z.1)] at hc;rw[hc] at q6;exact⟨_,rfl,q6 h60 d kvs H' sm nd e1 e2⟩
  ·have hil:i<rs.length:=by have:=xAp hlt; rw[xAa] at this; omega
   have hb:=xAh (l:=bs) (i:=i) (by omega);generalize bs[i]'(by omega)=tr at hb;obtain⟨r,hrs,htr⟩:=e4.get hb;have hrm:r∈rs:=xAu hrs;have okr:=hOk r hrm;have hc':=hc.trans (aFg hrs h60);rw[hFr] at hc';have h4r:=h4 r okr;refine⟨_,λ_ _ h=>h,?_⟩;refine⟨_,rfl,_,rfl,R,_,_,.ref tr,rfl,rfl,SqL.of e3,iF (by rw[xAg,hb]; rfl),?_⟩;refine⟨rfl,_,rfl,h5 r tr H' _ sm okr htr λl H2 s2 n2 W=>?_⟩;obtain⟨ts,w0,w1,w2⟩:=W.ex;have ld:l≠d:=λz=>by rw[z,e1] at n2; cases n2
   have lR:l≠R:=λz=>by rw[z,e3] at n2; cases n2
   have d2:=s2 _ _ e1;have R2:=s2 _ _ e3;have t2:=s2 _ _ htr;refine⟨l,rfl,⟨_,SqL.of w0⟩,?_⟩;refine dH (xs:=ts.map V.ref) (λj Z H3=>∃ x7 x8:Option V,Z=[some (.ref t),some (.ref df),some (.int 60),some (.ref d),some (.ref R),some (.int i),some (.ref tr),x7,x8]/\RT H H3 d R (gL rs (((Fp r).take j).map (·.2))) (64*i+j)/\∀ b o,H2 b=some o->b≠d->b≠R->H3 b=some o) ?_ ?_ ?_ ?_
   ·exact⟨_,_,rfl,rt.same s2,λb o e _ _=>e⟩
   ·rintro j Z H3 _ ⟨x7,x8,rfl,rt3,a2⟩;exact SqL.of (a2 _ _ w0 ld lR)
   ·rintro j v Z H3 hv ⟨x7,x8,rfl,rt3,a2⟩;rw[xAg] at hv;cases hy:ts[j]? with
    | none=>rw[hy] at hv; cases hv
    | some y=>
     rw[hy] at hv;cases hv;have hj:j<(Fp r).length:=by rw[<- w1]; exact (xAc.mp hy).1
     have hz:=xAh hj;generalize (Fp r)[j]=z at hz;obtain⟨u,w3,w4⟩:=w2 j y z hy hz;have w3':=a2 _ _ w3 (fO w3 d2 (λz=>nomatch z)) (fO w3 R2 (λz=>nomatch z));have w4':=a2 _ _ w4 (fO w4 d2 (λz=>nomatch z)) (fO w4 R2 (λz=>nomatch z));have t3:=a2 _ _ t2 (fO t2 d2 (λz=>nomatch z)) (fO t2 R2 (λz=>nomatch z));have etk:((Fp r).take (j+1)).map (·.2)=((Fp r).take j).map (·.2)++[z.2]:=by rw[xBl,hz,xAn]; rfl
     have hr3:r∈gL rs (((Fp r).take j).map (·.2)):=jS hrm;have rlen:(gL rs (((Fp r).take j).map (·.2))).length<=200:=by have:=pU (rs:=rs) (fs:=((Fp r).take j).map (·.2)); rw[xAa,xAt] at this; omega
     rw[etk,qZ];generalize gL rs (((Fp r).take j).map (·.2))=rs3 at rt3 hr3 rlen;obtain⟨⟨kvs3,bs3,f1,f2,f3,f4,f5⟩,sm3,_,nR3⟩:=id rt3;have kl:kvs3.length=rs3.length:=by have:=congrArg List.length f2; rw[xAa,xAa] at this; exact this
     have bl:bs3.length=rs3.length:=Paired.length f4;refine⟨y,_,rfl,SqT.of w3',rfl,_,_,rfl,_,_,rfl,rfl,?_⟩;refine⟨_,rfl,_,rfl,d,_,rfl,dQ.t (k:=z.2.map Sum.inr) f1 (by rw[gK]; exact w4'),_,rfl,?_⟩;rw[tV f2]
     by_cases hm:z.2∈rs3
     ·rw[xAv hm];refine gP ⟨_,_,rfl,?_,a2⟩;rw[xBe hm];exact rt3.more (by omega)
     ·rw[xBj hm,xAy hm];obtain⟨v,hv,lr,row,rfl,hrow,hle,hne⟩:=aNs (Pv:=λv=>∃ (l:Addr) (row:List Str),v=.ref l/\H3 l=some (.lst (row.map V.str))/\row.length<=64*i+j/\l≠R) f2 f5 hr3;have g1:=dQ.t (k:=r.map Sum.inr) f1 (b:=tr) (by rw[gK]; exact t3);rw[hv] at g1;refine jR ⟨_,rfl,_,rfl,d,_,rfl,g1,_,rfl,by show 1<=sizeLine; decide,λl1 hl1=>⟨lr,l1,_,_,rfl,rfl,smu hl1 _ _ hrow,aD,jI (by rw[xAa]; simp only[List.length_cons,List.length_nil]; omega),λl2 hl2=>?_⟩⟩;have s5:aO H3 (upd (upd H3 l1 (.lst [.str z.1])) l2 (.lst (row.map V.str++[.str z.1]))):=(smu hl1).trans (smu hl2);have e5l:(upd (upd H3 l1 (.lst [.str z.1])) l2 (.lst (row.map V.str++[.str z.1]))) l2=some (.lst ((row++[z.1]).map V.str)):=by rw[aD,xAn]; rfl
      have nl2:H3 l2=none:=(smu hl1).free hl2;generalize upd (upd H3 l1 (.lst [.str z.1])) l2 (.lst (row.map V.str++[.str z.1]))=H5 at s5 e5l ⊢;have l2d:l2≠d:=λz=>by rw[z,f1] at nl2; cases nl2
      have l2R:l2≠R:=λz=>by rw[z,f3] at nl2; cases nl2
      have Rd:R≠d:=fO f3 f1 (λz=>nomatch z);refine⟨_,rfl,_,rfl,d,_,rfl,oI.t (k:=z.2.map Sum.inr) (s5 _ _ f1) (by rw[gK]; exact s5 _ _ w4') (aR (by omega)),?_⟩;rw[xH (by rw[tV f2,xBj hm])];have h6R:(upd H5 d (.dT (kvs3++[(z.2.map Sum.inr,.ref l2)]))) R=some (.lst (bs3.map V.ref)):=by rw[aG Rd]; exact s5 _ _ f3
      refine⟨_,rfl,.inl ⟨rfl,_,SqL.of h6R⟩,_,rfl,R,_,_,rfl,rfl,h6R,aR (by rw[xAa]; omega),?_⟩;have k7:∀ b o,H5 b=some o->b≠d->b≠R->(upd (upd H5 d (.dT (kvs3++[(z.2.map Sum.inr,.ref l2)]))) R (.lst (bs3.map V.ref++[.ref u]))) b=some o:=λb o e n1 n2=>by rw[aG n2,aG n1]; exact e
      have d7:(upd (upd H5 d (.dT (kvs3++[(z.2.map Sum.inr,.ref l2)]))) R (.lst (bs3.map V.ref++[.ref u]))) d=some (.dT (kvs3++[(z.2.map Sum.inr,.ref l2)])):=by rw[aG (Ne.symm Rd),aD]
      have R7:(upd (upd H5 d (.dT (kvs3++[(z.2.map Sum.inr,.ref l2)]))) R (.lst (bs3.map V.ref++[.ref u]))) R=some (.lst ((bs3++[u]).map V.ref)):=by rw[aD,xAn]; rfl
      generalize upd (upd H5 d (.dT (kvs3++[(z.2.map Sum.inr,.ref l2)]))) R (.lst (bs3.map V.ref++[.ref u]))=H7 at k7 d7 R7 ⊢;have tk:∀ b xs,H3 b=some (.tup xs)->H7 b=some (.tup xs):=λb xs e=>k7 _ _ (s5 _ _ e) (fO e f1 (λz=>nomatch z)) (fO e f3 (λz=>nomatch z));refine⟨_,_,rfl,⟨⟨_,bs3++[u],d7,by rw[xAn,xAn,f2]; rfl,R7,gA.snoc (f4.same tk) (tk _ _ w4'),λkv hk=>?_⟩,λb o e=>k7 _ _ (s5 _ _ (sm3 _ _ e)) (aF e nd) (aF e nR3),nd,nR3⟩,λb o e n1 n2=>k7 _ _ (s5 _ _ (a2 _ _ e n1 n2)) n1 n2⟩;rcases xCp.mp hk with hk | hk
      ·obtain⟨l',row',q1,q2,q3,q4⟩:=f5 kv hk;exact⟨l',row',q1,k7 _ _ (s5 _ _ q2) (fO q2 f1 (λz=>nomatch z)) q4,by omega,q4⟩
      ·rw[xBb.mp hk];exact⟨l2,row++[z.1],rfl,k7 _ _ e5l l2d l2R,by rw[xAj,xHi]; omega,l2R⟩
   ·rintro Z H3 ⟨x7,x8,rfl,rt3,a2⟩;rw[xAa,w1,xBa] at rt3;generalize hrs3:gL rs ((Fp r).map (·.2))=rs3 at rt3 hc';have rt4:RT H H3 d R rs3 (64*(i+1)):=rt3.more (by omega);obtain⟨⟨kvs3,bs3,f1,f2,f3,f4,f5⟩,sm3,_,nR3⟩:=id rt3;have bl:bs3.length=rs3.length:=Paired.length f4;refine⟨_,rfl,R,_,rfl,.inl (SqL.of f3),_,rfl,_,_,rfl,rfl,_,rfl,fU (λhgt=>?_) (λhle=>?_)⟩
    ·have hgt':60<rs3.length:=by have:=xAp hgt; rw[xAa] at this; omega
     have hc2:gE Fr 61 [b] 0=rs3:=by rw[hc']; exact qX (λz=>xBg z.2 (by omega))
     rw[hc2] at q7;exact⟨_,rfl,by decide +kernel,_,rfl,60,rfl,by decide +kernel,_,rfl,by decide +kernel,_,rfl,by decide +kernel,by decide +kernel,by show 1<=sizeLine; decide,q7 hgt' H3 sm3⟩
    ·have hle':rs3.length<=60:=xIh λz=>hle (xAv (by rw[xAa]; omega));refine⟨_,rfl,_,_,rfl,rfl,?_⟩;refine⟨61-(i+1),by omega,i+1,rs3,_,_,_,rfl,rfl,rt4,?_,hle',λr' hr'=>?_,hc'⟩
     ·have:rs.length<=rs3.length:=by rw[<- hrs3]; exact sE
      omega
     ·rw[<- hrs3] at hr';rcases lZ hr' with h | h
      ·exact hOk r' h
      ·obtain⟨p,hp,rfl⟩:=xBc.mp h;exact h3 r okr p hp
def off (H:Hp)(P:Addr):Hp:=λb=>if b=P then none else H b
theorem pF {H:Hp}{P b:Addr}{o:HO}(e:off H P b=some o):b≠P/\H b=some o:=by
 unfold off at e
 by_cases q:b=P
 ·rw[xBe q] at e; cases e
 ·rw[xAy q] at e; exact⟨q,e⟩
theorem lO {H:Hp}{P b:Addr}{o:HO}(n:b≠P)(e:H b=some o):off H P b=some o:=by
 unfold off;rw[xAy n];exact e
theorem tR {H H':Hp}{P:Addr}(s:aO H H'):aO (off H P) (off H' P):=λ_ _ e=>let ⟨n,e'⟩:=pF e; lO n (s _ _ e')
theorem zS {H:Hp}{P:Addr}:aO (off H P) H:=λ_ _ z=>(pF z).2
def Pl:HO->Prop
 | .tbl _=>False
 | .dT _=>False
 | _=>True
def NTb (H H':Hp):Prop:=∀ b o,H b=some o->Pl o->H' b=some o
section
variable {K:xAd}{H H':Hp}
theorem ntW {C p:Addr}{kvs:List (Key×V)}(s:NTb H H')(h:WAt C H p kvs):WAt C H' p kvs:=by
 obtain⟨dx,fs,dw,o,h0,h1,h2,h3⟩:=h;exact⟨dx,fs,dw,o,s _ _ h0 trivial,h1,h2,s _ _ h3 trivial⟩
theorem ntM {CM x dd:Addr}{b:Str}{es kn:List Str}{ds:List Dr}(s:NTb H H')(h:MM CM H x dd b es kn ds):MM CM H' x dd b es kn ds:=by
 obtain⟨dx,l,e,k,kvs,g,M⟩:=h;exact⟨dx,l,e,k,kvs,g,⟨s _ _ M.ins trivial,⟨s _ _ M.lead.dk trivial,M.lead.keys,M.lead.val,λz hz=>s _ _ (M.lead.dd z hz) trivial,M.lead.inj,M.lead.ne⟩,s _ _ M.ends trivial,s _ _ M.know trivial⟩⟩
theorem aXa {CM x p:Addr}{ms:List MW}(s:NTb H H')(h:mJ CM H x p ms):mJ CM H' x p ms:=by
 obtain⟨Xs,a0,a1,a2⟩:=h.ex;exact⟨Xs,s _ _ a0 trivial,a1,λi X m a b=>ntM s (a2 i X m a b)⟩
theorem ntV {CM CW v x:Addr}{ms:List MW}(s:NTb H H')(W:Wv CM CW H v x ms):Wv CM CW H' v x ms:=by
 obtain⟨dv,lm,lk,kn,h1,h2,h3,h4⟩:=W;exact⟨dv,lm,lk,kn,s _ _ h1 trivial,aXa s h2,s _ _ h3 trivial,h4⟩
theorem ntT {bs:List Addr}{rs:xLL}(s:NTb H H')(h:gA H bs rs):gA H' bs rs:=h.same λ_ _ e=>s _ _ e trivial
end
def Tab (pos:Pos)(q:Str)(P:Addr)(H:Hp):Prop:=H P=some (.tbl #[])\/∃ c',H P=some (.tbl #[rawInt pos.line,rawInt pos.col,.ref c'])/\H c'=some (.ext (eU c' q))
section
variable {pos:Pos}{q:Str}{P:Addr}{H H':Hp}
theorem Tab.same (T:Tab pos q P H)(s:aO H H'):Tab pos q P H':=T.elim (λh=>.inl (s _ _ h)) λ⟨c',h1,h2⟩=>.inr ⟨c',s _ _ h1,s _ _ h2⟩
theorem Tab.tb (T:Tab pos q P H):∃ ps,H P=some (.tbl ps):=T.elim (λh=>⟨_,h⟩) λ⟨_,h,_⟩=>⟨_,h⟩
theorem Tab.others {P':Addr}(T:Tab pos q P H)(n:P≠P')(t:∃ ps,H P'=some (.tbl ps))(s:aO (off H P') H'):Tab pos q P H':=T.elim (λh=>.inl (s _ _ (lO n h))) λ⟨c',h1,h2⟩=>.inr ⟨c',s _ _ (lO n h1),s _ _ (lO (λz=>by obtain⟨ps,e⟩:=t; rw[z,e] at h2; cases h2) h2)⟩
theorem aQb {d:Addr}{u:HO}(h:H d=some u)(hu:¬ Pl u){b:Addr}{o:HO}(e:H b=some o)(n:Pl o):b≠d:=λz=>by
 rw[z,h] at e;cases e;exact hu n
theorem aEq (t:∃ ps,H P=some (.tbl ps))(s:aO (off H P) H'):NTb H H':=λb o e n=>s _ _ (lO (let ⟨_,h⟩:=t; aQb h (λz=>z) e n) e)
theorem aKz (T:Tab pos q P H')(s:aO (off H P) H'){l:Addr}(h:H' l=none):H l=none:=by
 cases e:H l with
 | none=>rfl
 | some o=>
  by_cases n:l=P
  ·obtain⟨ps,t⟩:=T.tb;rw[n,t] at h; cases h
  ·rw[s _ _ (lO n e)] at h; cases h
theorem Tab.made {c':Addr}{H1:Hp}(hc:H c'=none)(hn:c'≠P)(e:H1=upd (upd H P (.tbl (#[]++#[rawInt pos.line,rawInt pos.col,.ref c']))) c' (.ext (eU c' q))):aO (K23.off H P) H1/\Tab pos q P H1/\H1 c'=some (.ext (eU c' q)):=by
 refine⟨λb o z=>?_,.inr ⟨c',?_,?_⟩,?_⟩
 ·obtain⟨z1,z2⟩:=pF z;rw[e,aG (aF z2 hc),aG z1];exact z2
 ·rw[e,aG (Ne.symm hn),aD]
  first | done | rfl
 ·rw[e,aD]
 ·rw[e,aD]
theorem Tab.hand {R:Addr->Hp->Prop}(T:Tab pos q P H)(h:∀ c' H1,aO (K23.off H P) H1->Tab pos q P H1->H1 c'=some (.ext (eU c' q))->R c' H1)(hca:∀ c',codeAmong pos [rawInt pos.line,rawInt pos.col,.ref c']=some (.ref c'):=by intro; rfl):aMw P pos q R H:=by
 rcases id T with hP | ⟨c',hP,hc⟩
 ·exact .made #[] hP trivial rfl λc' H1 hc hn e=>let ⟨a,b,c⟩:=Tab.made hc hn e; h c' H1 a b c
 ·exact .hit _ c' hP ⟨⟩ (hca c') hc (h c' H zS T hc)
theorem Tab.tried {word:Addr->Option Str}{js:List Nat}{te:XK->TE}{Z:St}{Q:VK}(T:Tab pos q P H)(h:∀ H1,aO (K23.off H P) H1->Tab pos q P H1->te (iS word Q) (cE 0 js Z) H1 (λ_ H2=>Q (.str "") H2))(hca:∀ c',codeAmong pos [rawInt pos.line,rawInt pos.col,.ref c']=some (.ref c'):=by intro; rfl):aDw P pos q word js te Z H Q:=by
 rcases id T with hP | ⟨c',hP,hc⟩
 ·exact .made ⟨#[],hP,trivial,rfl,λc' H1 hc hn e=>let ⟨a,b,c⟩:=Tab.made hc hn e; h H1 a b⟩
 ·exact .hit ⟨_,c',hP,⟨⟩,hca c',hc,h H zS T⟩
end
theorem ROk.far {ms:List MW}{room r':List Str}{z:Str}(hN:∀ m∈ms,m.rs.all aZ=true)(R:ROk ms room)(h:wto ms room z=some r'):ROk ms r':=by
 unfold wto at h
 by_cases q:z∈wkn ms
 ·rw[xBe q] at h;unfold aBe at h
  by_cases a:(parts ms room z).any (λo=>o.isNone)=true
  ·rw[xBe a] at h; cases h
  ·rw[xAy a] at h;cases h;refine⟨by rw[xAa]; unfold parts; rw[xEl,<- R.len,xJx],λi m u hm hu=>?_⟩;have hi:i<ms.length:=(xAc.mp hm).1;have hz0:=xAh (l:=room) (i:=i) (by rw[<- R.len]; exact hi);generalize room[i]'(by rw[<- R.len]; exact hi)=z0 at hz0;rw[xAg,tQ hm hz0] at hu;cases g:nJ m.ds m.kn z0 z with
   | none=>exact xBg (xEz.mpr ⟨none,xAu (by rw[tQ hm hz0,g]),rfl⟩) a
   | some u'=>
    rw[g] at hu;cases hu;have hmem:u'∈m.rs:=aMa (R.mem i m z0 hm hz0).2 g;exact⟨xBn.mp (hN m (xAu hm)) _ hmem,hmem⟩
 ·rw[xAy q] at h; cases h
theorem ROk.begin {ms:List MW}(hN:∀ m∈ms,m.rs.all aZ=true):ROk ms (ms.map (·.b)):=by
 refine⟨by rw[xAa],λi m z hm hz=>?_⟩;rw[xAg,hm] at hz;cases hz
 have:m.b∈m.rs:=xDk _ (xBk ..)
 exact⟨xBn.mp (hN m (xAu hm)) _ this,this⟩
abbrev nU:Pos:=⟨254,37,254,65⟩
abbrev nQ:Str:="Woven.rooms.<locals>."++"<lambda>"
abbrev bU (ms:List MW)(S:List Str):List (List Str):=gE (λr=>S.filterMap (wto ms r)) 61 [ms.map (·.b)] 0
inductive yN (C CM CW cT Pr:Addr)(vs:List V)(H:Hp)(Q:VK)(E:XK):Prop
 | mk (v x:Addr)(ms:List MW)(S:List Str)(wk:List (Key×V))(h0_:vs=[.ref v])(h1_:Wv CM CW H v x ms)(h2_:1<=ms.length/\ms.length<=100)(h3_:∀ m∈ms,m.rs.all aZ=true)(h4_:WAt C H x wk)(h5_:∀ z∈wkn ms,z∈S)(h6_:S.length<64)(h7_:∀ z∈S,dM wk (.str z)=true)
  (h8_:xBr S=true)(h9_:S.Nodup)(h10_:Tab nU nQ Pr H)
  (h11_:(bU ms S).length<=60->∀ (l:Addr) (bs:List Addr) H',aO (off H Pr) H'->H l=none->Tab nU nQ Pr H'->H' l=some (.lst (bs.map V.ref))->gA H' bs (bU ms S)->Q (.ref l) H')
  (h12_:60<(bU ms S).length->∀ H',aO (off H Pr) H'->Tab nU nQ Pr H'->E (.ref cT) none H')
abbrev NCT:List Str:=["begin","doors","most"]
theorem aWq:aQ NCT NCT (aB xC):=xfs
theorem aGx {f fR cT:Addr}{fd fdR:FuncData}{kd:Nat}(F:Fun K "come_to" "come_to" xC f fd)(T:Txt K mg)
  (GR:uQ P w K mg base (kd+1) fR fdR NCT (SpH P w K mg base kd (yP cT)))(kR:keepIn K (.ref fR)=true)(bR:aW K fdR NCT [])(mR:mg "rows_to"=some (.ref fR)) :
  uQ P w K mg base (kd+2) f fd NCT (SpH P w K mg base kd (yR cT)):=by
 refine okS F aWq (λo s vs H Q E h=>?_) (λcdv A outer s H vs Q E hr h D=>?_)
 ·obtain⟨df,spD,_,t,b,Fp,Ok,rfl,_⟩:=h;rfl
 ·obtain⟨df,spD,hd,t,b,Fp,Ok,rfl,hT,hok,h3,h4,h5,q6,q7⟩:=h
  exact⟨_,aL (bO (eG (aDo rfl) (by rfl) T.list Bo.list (pac (aKh (spD:=spD) (E:=E) GR hr rfl mR kR bR (D.passes λ_ _ _ z=>z) (λ_ _ _ _ I=>hd.later (aQi I)) (pac (pv 0) (pac (pv 1) (pac (pv 2) aH)))) aH))),
   _,rfl,_,rfl,_,rfl,t,b,Fp,Ok,rfl,hT,hok,h3,h4,h5,λhc d kvs H' s n e ek=>⟨d,kvs,_,rfl,e,ek,λp bs hp tp=>q6 hc p bs _ (s.trans (smu hp)) (s.free hp) aD (tp.same λb xs e=>smu hp _ _ e)⟩,q7⟩
theorem aWb:aQ ["self"] ["self"] (aB gZ):=xfs
theorem aGm {f fB fWy fCT C CM CW cT c2 Pr:Addr}{fdB fdWy fdCT:FuncData}{oc kV doc pm ct:Value}{an od:Option Addr}{osl:xAO}
  (lk:K.lookup f=some ⟨oc,od,.func (fnOf "rooms" "Woven.rooms" (aJ gZ) (aI gZ) (aB gZ) .none kV doc pm an (.ref c2) ct),osl⟩)(hcd:codeIn K (.ref c2) "Woven.rooms" = true)(hhd:codeHdIn K c2 Pr=true)(bm:jT mg base)
  (WC:rU K CW)(mMR:∃ t,mg "MOST_ROOMS"=some (.int 60 t))
  (GB:aY P w K mg base CX0 3 fB fdB ["self"] (sQ CM CW))(bB:aW K fdB ["self"] [])(mB:fV K CW "begin" fB)
  (GWy:aY P w K mg base CX0 6 fWy fdWy ["self","room"] (rW K C CM CW))(bWy:aW K fdWy ["self","room"] [])(mWy:fV K CW "ways" fWy)
  (GCT:uQ P w K mg base 9 fCT fdCT NCT (SpH P w K mg base 7 (yR cT)))(kCT:keepIn K (.ref fCT)=true)(bCT:aW K fdCT NCT [])(mCT:mg "come_to"=some (.ref fCT)) :
  aY P w K mg base (CXE P w) 10 f (fnOf "rooms" "Woven.rooms" (aJ gZ) (aI gZ) (aB gZ) .none kV doc pm an (.ref c2) ct) ["self"] (yN C CM CW cT Pr):=by
 obtain⟨tm,mMR⟩:=mMR;refine aAl lk hcd aWb (λvs H Q E h=>?_) (λA outer s H vs Q E hr h=>?_)
 ·obtain⟨v,x,ms,S,wk,rfl,_⟩:=h;rfl
 ·obtain⟨v,x,ms,S,wk,rfl,W,hl,hN,hW,hkS,h64,hg,so,nd,TB,q1,q2⟩:=h;have D:(iC (CXE P w) P w K mg base ["self"] "Woven.rooms" (aB gZ) f (.ref c2) A outer s H E).Body E:=sD;have hr3:cL 3 _:=hr.mono (by decide)
  refine⟨_,aL (bO (aOe (kd:=6) (P:=Pr) (v3:=.int 60) (NL:=["self"]) (js:=[0]) (te:=λEw=>aIr CW "ways" (rW K C CM CW) [] Ew (yK 1) (vI (yK 0) aIq)) GCT hr rfl mCT kCT bCT (D.passes λ_ _ _ z=>z) (λ_=>rfl) rfl hhd bm
   ⟨rfl,rfl,rfl,by decide +kernel,rfl,by decide +kernel⟩ (cF (aB gZ) ["self"] rfl rfl (by decide +kernel)) rfl (λ_ _ _ _ _=>rfl)
   (λEw A outer f c' cl s' H' hr=>eA (E:=Ew) (pv 1) WC.cl mWy GWy hr bWy .nil cA (pac (pv 0) aH)) (dS (pv 0) WC.cl mB GB hr3 bB .nil cA) (by rfl) mMR ⟨_,rfl⟩)),?_⟩
  obtain⟨dv,lm,lk',kn,hi,M,hk,hkn⟩:=id W;refine⟨_,rfl,v,dv,_,rfl,hi,dN _ _ _ (by decide),v,x,ms,rfl,W,hl.2,λl H1 s1 n1 e1=>?_⟩;have T1:=TB.same s1;refine T1.hand λc' H2 s2 T2 hc f'=>?_;have nt:=aEq T1.tb s2;have sO:aO (off H Pr) H2:=(tR s1).trans s2;have eF:(λr=>(dF ms (jL ms S r) r).map (·.2))=λr=>S.filterMap (wto ms r):=funext λr=>aFc S;have W2:=ntV nt (W.same s1);have hW2:=ntW nt (fX hW s1);refine⟨l,ms.map (·.b),λr=>dF ms (jL ms S r) r,ROk ms,rfl,nt _ _ e1 trivial,ROk.begin hN,λr hr p hp=>?_,λr _=>?_,λr t' H' Q' s' ok ht hw=>⟨_,rfl,s' _ _ hc,?_⟩,?_,?_⟩
  ·obtain⟨z,hz,rfl⟩:=xBc.mp hp;have hs:=(xCc.mp hz).2;obtain⟨r',er⟩:=xCv.mp hs;show ROk ms ((wto ms r z).getD []);rw[er];exact hr.far hN er
  ·unfold dF jL;rw[xAa];exact xAr (xCw ..) (xDw h64)
  ·have W3:=W2.same s';obtain⟨dv3,lm3,lk3,kn3,hi3,_⟩:=id W3;exact⟨_,rfl,v,dv3,_,rfl,hi3,dN _ _ _ (by decide),_,rfl,v,x,t',ms,r,S,wk,rfl,W3,ht,ok,hl,fX hW2 s',hkS,h64,hg,so,nd,hw⟩
  ·rw[eF];exact λhle l2 bs H' s' n' e' tp=>q1 hle l2 bs H' (sO.trans s') (aKz T2 sO n') (T2.same s') e' tp
  ·rw[eF];exact λhgt H' s'=>q2 hgt H' (sO.trans s') (T2.same s')
theorem aLi (b:Str)(e g k:Addr):dC (mpD b e g k) (Sum.inr "begin")=some (.str b):=by rfl
theorem aSh {H:Hp}{q e g k:Addr}{b:Str}(h:H q=some (.dK (mpD b e g k))):dQ H q (.str "begin") (some (.str b)):=by
 have:=dQ.k (k:=Sum.inr "begin") h
 rw[aLi] at this;exact this
theorem aNc {ms:List MW}{room r':List Str}{z:Str}(hl:ms.length=room.length)(h:wto ms room z=some r'):ms.length=r'.length:=by
 unfold wto at h
 by_cases q:z∈wkn ms
 ·rw[xBe q] at h;unfold aBe at h
  by_cases a:(parts ms room z).any (λo=>o.isNone)=true
  ·rw[xBe a] at h; cases h
  ·rw[xAy a] at h;cases h;rw[xAa];unfold parts;rw[xEl,<- hl,xJx]
 ·rw[xAy q] at h; cases h
theorem pV:∀ {fs rs:xLL}{i:Nat},i<rs.length->(gL rs fs)[i]?=rs[i]?
 | [],_,_,_=>rfl
 | x::fs,rs,i,h=>by
  by_cases q:x∈rs
  ·show (gL (if x∈rs then rs else rs++[x]) fs)[i]?=_
   rw[xBe q];exact pV h
  ·show (gL (if x∈rs then rs else rs++[x]) fs)[i]?=_
   rw[xAy q,pV (by rw[xAj]; omega),xBf h]
theorem aMq {rs fs:xLL}{o:Option (List Str)}:gL rs (fs++o.toList)=match o with
  | none=>gL rs fs
  | some r'=>if r'∈gL rs fs then gL rs fs else gL rs fs++[r']:=by
 cases o with
 | none=>rw[Option.toList_none,xBm]
 | some r'=>exact qZ
theorem aPf {α β:Type}{f:α->Option β}{l:List α}{j:Nat}{z:α}(h:l[j]?=some z):(l.take (j+1)).filterMap f=(l.take j).filterMap f++(f z).toList:=by
 rw[xBl,h,xDi];cases e:f z <;> simp[e]
inductive aJe (K:xAd)(vs:List V)(H:Hp)(Q:VK)(E:XK):Prop
 | mk (D n:Addr)(ms:List MW)(ss S:List Str)(h0_:vs=[.ref D,.ref n,.int 60])(h1_:gX H D ms)(h2_:H n=some (.lst (ss.map V.str)))(h3_:ss.length<64)(h4_:ms.length<=10)(h5_:S.Perm ss)(h6_:xBr S=true)
  (h7_:∀ (l:Addr) (bs:List Addr) H',aO H H'->H l=none->H' l=some (.lst (bs.map V.ref))->gA H' bs (bU ms S)->(bU ms S).length<=200->Q (.ref l) H')
abbrev NCo:List Str:=["_law_maps_here","_law_names","_law_most","_law_rooms","_law_at","_law_deed","_law_other"]
theorem aGb:aQ NCo ["_law_maps_here","_law_names","_law_most"] (aB aEi):=xfs
abbrev ndO:List Str:=["_law_one"]
theorem aOp {f fS:Addr}{fd fdS:FuncData}(F:Fun K "_law_come" "_law_come" aEi f fd)(T:Txt K mg)(mTu:mg "tuple" = none)
  (GS:aY P w K mg base CX0 1 fS fdS ["_law_maps_here","_law_room","_law_deed"] (aBo K))(kS:keepIn K (.ref fS)=true)(bS:aW K fdS ["_law_maps_here","_law_room","_law_deed"] [])(mS:mg "_law_step" = some (.ref fS)) :
  aY P w K mg base CX0 2 f fd ["_law_maps_here","_law_names","_law_most"] (aJe K):=by
 refine F.ok aGb (λvs H Q E h=>?_) (λcdv A outer s H vs Q E hr h=>?_)
 ·obtain⟨D,n,ms,ss,S,rfl,_⟩:=h;rfl
 ·obtain⟨D,n,ms,ss,S,rfl,M,hn,h64,hl,pm,so,q⟩:=h;have hu:=iI hr
  refine⟨_,aK (bJ (i:=3) aGb.nd rfl (xAx rfl) (cM (pac (eG iE (by rfl) mTu Bo.tuple (pac (dW (N':=ndO) (nown:=1) (js:=[]) rfl
     xbs (cF (aB aEi) NCo rfl rfl (by decide +kernel))
     ⟨λ_ _ _ _=>aP (i:=0) (show List.Nodup ndO by decide +kernel) rfl (xAx rfl) (.inr rfl),λ_ _ _ _=>dU,λ_ _ _ _=>eB hu (pv 0) aS (λ_ _=>rfl)⟩
     (cS (pv 0))) aH)) aH)))
   (aK (bJ (i:=4) aGb.nd rfl (xAx rfl) aN)
   (aK (zI PassesOwn.never (aCd (cB aKn (pv 4) (cC cZ (by rfl) T.len Bo.len (pac (pv 3) aH)) (cO _)) (xG (cB aTu (cC cZ (by rfl) T.len Bo.len (pac (pv 3) aH)) (pv 2) (cO _)))).pt
    (aK (dI PassesOwn.never rfl (cS (cC kT (by rfl) T.sorted Bo.sorted (pac (pv 1) aH))) (aP (i:=5) aGb.nd rfl (xAx rfl))
     (aK (bJ (i:=6) aGb.nd rfl (xAx rfl) (bV GS hr (by rfl) mS kS bS .nil cA (pac (pv 0) (pac (eE cY (pv 3) (pv 4) (λ_ _=>rfl)) (pac (pv 5) aH)))))
     (aL (dR (aCd (cB xI (pv 6) jJ (cO _)) (xG (cB (aGl hu) (pv 6) (pv 3) (by with_unfolding_all rfl)))).pt (aL (cW (kU xBq xCo xCn eX (pv 3) (pac (pv 6) aH)))) cG))))
    (aL (bJ (i:=4) aGb.nd rfl (xAx rfl) (aX dY (pv 4) aN)))))
   (aL (bO (pv 3))))),?_⟩
  obtain⟨qs,q0,q1,q2⟩:=M.ex;refine⟨_,rfl,D,rfl,⟨_,SqL.of q0⟩,λD1 hD1=>gH (xs:=qs.map V.ref) (λi Z' H'=>∃ u,Z'=[u]/\H' D1=some (.lst (((ms.take i).map (·.b)).map V.str))/\aO H H') ?_ ?_ ?_ ?_⟩
  ·exact⟨none,rfl,aD,smu hD1⟩
  ·rintro i Z' H' _ ⟨u,rfl,a1,a2⟩;exact SqL.of (a2 _ _ q0)
  ·rintro i u Z' H' hv ⟨u0,rfl,a1,a2⟩;rw[xAg] at hv;cases hq:qs[i]? with
   | none=>rw[hq] at hv; cases hv
   | some q'=>
    rw[hq] at hv;cases hv;have hi:i<ms.length:=by rw[<- q1]; exact (xAc.mp hq).1
    have hm':=xAh hi;generalize ms[i]=mw at hm';obtain⟨e,g,kk,kvs,m0,m1,m2,m3,m4,m5,m6⟩:=q2 i q' mw hq hm';refine⟨_,rfl,q',_,rfl,aSh (a2 _ _ m0),_,a1,aR (by rw[xAa,xAa,xAt]; omega),_,rfl,?_,λb o' e'=>?_⟩
    ·rw[aD,xBl,hm']
     simp
    ·rw[aG (aF e' hD1)];exact a2 _ _ e'
  rintro Z' H10 ⟨u,rfl,a1,a2⟩;have etk:ms.take (qs.map V.ref).length=ms:=by rw[xAa,q1,xBa]
  rw[etk] at a1;refine⟨D1,_,rfl,.inl ⟨SqL.of a1,λbg hbg=>?_⟩⟩;have s11:aO H (upd H10 bg (.tup ((ms.map (·.b)).map V.str))):=a2.trans (smu hbg);have e11:(upd H10 bg (.tup ((ms.map (·.b)).map V.str))) bg=some (.tup ((ms.map (·.b)).map V.str)):=aD;generalize upd H10 bg (.tup ((ms.map (·.b)).map V.str))=H11 at s11 e11 ⊢;refine⟨by show 1<=sizeLine; decide,λR hR=>?_⟩;have s12:aO H11 (upd H11 R (.lst [.ref bg])):=smu hR;have e12:(upd H11 R (.lst [.ref bg])) R=some (.lst ([bg].map V.ref)):=aD;have nR:H R=none:=s11.free hR;generalize upd H11 R (.lst [.ref bg])=H12 at s12 e12 ⊢;have t0:gA H12 [bg] [ms.map (·.b)]:=.cons (s12 _ _ e11) .nil;have s0:aO H H12:=s11.trans s12;clear hD1 a1 a2 hbg s11 e11 hR s12;have hSl:S.length<64:=by rw[pm.length_eq]; exact h64
  generalize hFr:(λr=>S.filterMap (wto ms r))=Fr;have hF:∀ r,Fr r=S.filterMap (wto ms r):=λr=>by rw[<- hFr]
  have hcm:bU ms S=gE Fr 61 [ms.map (·.b)] 0:=by rw[<- hFr]
  refine⟨λm Z H'=>∃ (i:Nat) (rs:xLL) (bs:List Addr) (x5 x6:Option V),m=61-i/\Z=[some (.ref D),some (.ref n),some (.int 60),some (.ref R),some (.int i),x5,x6]/\H' R=some (.lst (bs.map V.ref))/\gA H' bs rs/\aO H H'/\i<=60/\rs.length<=200/\(∀ r∈rs,ms.length=r.length)/\gE Fr 61 [ms.map (·.b)] 0=gE Fr (61-i) rs i,
   ⟨61,0,[ms.map (·.b)],[bg],none,none,rfl,rfl,e12,t0,s0,xCa _,(by show 1<=200; decide),λr hr=>by rw[xBb.mp hr,xAa],rfl⟩,?_⟩
  rintro m Z H' ⟨i,rs,bs,x5,x6,rfl,rfl,e3,e4,sm,hi,h200,hOk,hc⟩;have lbs:bs.length=rs.length:=Paired.length e4
  have fin:¬ (i<rs.length/\rs.length<=60)->Q (.ref R) H':=λh=>by
   rw[qX h] at hc;rw[hcm,hc] at q;exact q R bs H' sm nR e3 e4 h200
  refine⟨_,rfl,_,rfl,R,_,rfl,.inl (SqL.of e3),_,_,rfl,rfl,_,rfl,fU (λh1=>⟨_,rfl,R,_,rfl,.inl (SqL.of e3),_,rfl,_,_,rfl,rfl,_,rfl,fU (λh2=>?_) (λh2=>⟨_,rfl,fin λz=>h2 (xAv (by rw[xAa]; omega))⟩)⟩) (λh1=>gP ⟨_,rfl,fin λz=>h1 (xAv (by rw[xAa]; omega))⟩)⟩;have hil:i<rs.length:=by have:=xAp h1; rw[xAa] at this; omega
  have h60:rs.length<=60:=by have:=xAp h2; rw[xAa] at this; omega
  have hrs:=xAh hil;have hrm:rs[i]∈rs:=xCt hil;generalize rs[i]=r at hrs hrm;have hlr:=hOk r hrm;have hc':=hc.trans (aFg hrs h60);rw[hF] at hc';refine⟨_,λ_ _ h=>h,?_⟩;refine⟨_,rfl,n,ss,rfl,SqL.of (sm _ _ hn),h64,λp S' hp pm' so'=>⟨p,rfl,⟨_,SqL.of aD⟩,?_⟩⟩;have eS:S'=S:=sX pm' pm so' so;subst eS;have pR:p≠R:=λz=>by rw[z,e3] at hp; cases hp
  have sp:aO H' (upd H' p (.lst (S'.map V.str))):=smu hp;have ep:(upd H' p (.lst (S'.map V.str))) p=some (.lst (S'.map V.str)):=aD;generalize upd H' p (.lst (S'.map V.str))=Hp' at sp ep ⊢;refine dH (xs:=S'.map V.str) (λj Z H3=>∃ (x5 x6:Option V) (bs:List Addr),Z=[some (.ref D),some (.ref n),some (.int 60),some (.ref R),some (.int i),x5,x6]/\H3 R=some (.lst (bs.map V.ref))/\gA H3 bs (gL rs ((S'.take j).filterMap (wto ms r)))/\aO H H3/\H3 p=some (.lst (S'.map V.str))) ?_ ?_ ?_ ?_
  ·exact⟨_,_,bs,rfl,sp _ _ e3,e4.same λ_ _ e=>sp _ _ e,sm.trans sp,ep⟩
  ·rintro j Z H3 _ ⟨x5,x6,bs3,rfl,f3,f4,f5,f6⟩;exact SqL.of f6
  ·rintro j v Z H3 hv ⟨x5,x6,bs3,rfl,f3,f4,f5,f6⟩;rw[xAg] at hv;cases hz:S'[j]? with
   | none=>rw[hz] at hv; cases hv
   | some z=>
    rw[hz] at hv;cases hv;have hj:j<S'.length:=(xAc.mp hz).1;have ra:(gL rs ((S'.take j).filterMap (wto ms r)))[i]?=some r:=by rw[pV hil]; exact hrs
    have rl:(gL rs ((S'.take j).filterMap (wto ms r))).length<=150:=by
     have h:=pU (rs:=rs) (fs:=(S'.take j).filterMap (wto ms r));have h':=xCx (wto ms r) (S'.take j);rw[xAt] at h';omega
    have hsn:=aMq (rs:=rs) (fs:=(S'.take j).filterMap (wto ms r)) (o:=wto ms r z);rw[<- aPf hz] at hsn;rw[hsn];clear hsn;generalize gL rs ((S'.take j).filterMap (wto ms r))=rs3 at f4 ra rl ⊢;have bl:bs3.length=rs3.length:=Paired.length f4;have hi3:i<bs3.length:=by rw[bl]; exact (xAc.mp ra).1
    have hb:=xAh hi3;generalize bs3[i]=tr at hb;obtain⟨r3,hr3,htr⟩:=f4.get hb;rw[ra] at hr3;cases hr3;refine⟨_,rfl,_,rfl,_,rfl,R,_,_,.ref tr,rfl,rfl,SqL.of f3,iF (by rw[xAg,hb]; rfl),_,rfl,D,tr,ms,r,z,rfl,M.same f5,SqT.of htr,hlr,hl,?_⟩;cases ho:wto ms r z with
    | none=>
     intro H4 s4;exact⟨_,rfl,rfl,_,rfl,fU (λh=>xBg h (by simp)) λ_=>gP ⟨_,_,bs3,rfl,s4 _ _ f3,f4.same λ_ _ e=>s4 _ _ e,f5.trans s4,s4 _ _ f6⟩⟩
    | some r'=>
     intro l H4 s4 n4 e4';have f4':=f4.same (H':=H4) λ_ _ e=>s4 _ _ e;refine⟨_,rfl,rfl,_,rfl,fU (λ_=>?_) (λh=>xBg (by simp) h)⟩;refine⟨_,rfl,_,rfl,l,R,bs3,r',rs3,rfl,rfl,e4',SqL.of (s4 _ _ f3),f4',_,rfl,?_⟩
     by_cases hm:r'∈rs3
     ·rw[xAv hm];refine gP ⟨_,_,bs3,rfl,s4 _ _ f3,?_,f5.trans s4,s4 _ _ f6⟩;show gA H4 bs3 (if r'∈rs3 then rs3 else rs3++[r'])
      rw[xBe hm];exact f4'
     ·rw[xBj hm];refine jR ⟨_,rfl,.inl ⟨rfl,_,SqL.of (s4 _ _ f3)⟩,_,rfl,R,_,_,rfl,rfl,s4 _ _ f3,aR (by rw[xAa]; omega),?_⟩
      have tk:∀ b xs,H4 b=some (.tup xs)->(upd H4 R (.lst (bs3.map V.ref++[.ref l]))) b=some (.tup xs):=λb xs e=>by
       rw[aG (fO e (s4 _ _ f3) (λz=>nomatch z))];exact e
      refine⟨_,_,bs3++[l],rfl,by rw[aD,xAn]; rfl,?_,λb o e=>?_,?_⟩
      ·show gA _ (bs3++[l]) (if r'∈rs3 then rs3 else rs3++[r'])
       rw[xAy hm];exact gA.snoc (f4'.same tk) (tk _ _ e4')
      ·rw[aG (aF e nR)];exact s4 _ _ (f5 _ _ e)
      ·rw[aG pR];exact s4 _ _ f6
  ·rintro Z H3 ⟨x5,x6,bs3,rfl,f3,f4,f5,f6⟩;rw[xAa,xBa] at f4;refine⟨_,rfl,_,_,rfl,rfl,?_⟩;refine⟨61-(i+1),by omega,i+1,_,bs3,_,_,rfl,rfl,f3,f4,f5,by omega,?_,λr' hr'=>?_,hc'⟩
   ·have h:=pU (rs:=rs) (fs:=S'.filterMap (wto ms r));have h':=xCx (wto ms r) S';omega
   ·rcases lZ hr' with h | h
    ·exact hOk r' h
    ·obtain⟨z,_,hz⟩:=xBz.mp h;exact aNc hlr hz
def nk (k:Nat):Str:=("n" : Str)++Str.ofString (toString (k:Int))
def aGd (n:Nat):List Str:=(List.range n).map nk
def vX (n:Nat):List Dr:=(List.range n).map λk=>(nk k,"go",nk ((k+1)%n))
def gJ (n:Nat):MR:=⟨"n0",(aGd n).take 3,vX n++[(("n0" : Str),("aside" : Str),("n0" : Str))],[]⟩
def iV:MR:=⟨"a",["b"],[("a","aside","b"),("a","go","a")],[]⟩
def aUv (n:Nat):Prop:=56<=n/\n<=60
abbrev jG:List Str:=["go","aside"]
theorem aMn:aSo iV jG:=⟨by decide +kernel,by decide +kernel,by unfold Ky.Apart; decide +kernel,by decide +kernel,by decide +kernel⟩
theorem aNt {n:Nat}(h:aUv n):aSo (gJ n) jG:=by
 obtain⟨h1,h2⟩:=h;rcases (show n=56\/n=57\/n=58\/n=59\/n=60 by omega) with rfl | rfl | rfl | rfl | rfl <;> exact⟨by decide +kernel,by decide +kernel,by unfold Ky.Apart; decide +kernel,by decide +kernel,by decide +kernel⟩
theorem aRv:∀ k:Nat,k<64->("n" : Str).length+(Str.ofString (toString (k:Int))).length<=100:=by decide +kernel
theorem qQ:∀ k:Nat,k<64->((k:Int)).natAbs.log2<1920:=by decide +kernel
inductive aIx (vs:List V)(H:Hp)(Q:VK)(E:XK):Prop
 | mk (n:Nat)(h0_:vs=[.int n])(h1_:3<=n/\n<=60)(h2_:∀ (p:Addr) H',aO H H'->H p=none->PlA H' p [gJ n,iV]->Q (.ref p) H')
abbrev NRi:List Str:=["_law_many","_law_rooms","_law_doors","_law_other"]
theorem aNq:aQ NRi ["_law_many"] (aB yZ):=xfs
abbrev aUc:List Str:=["_law_k"]
abbrev aUb:List Str:=["_law_k","_law_many","_law_rooms"]
theorem aOi {f:Addr}{fd:FuncData}(F:Fun K "_law_ring" "_law_ring" yZ f fd)(T:Txt K mg):aY P w K mg base CX0 1 f fd ["_law_many"] aIx:=by
 refine F.ok aNq (λvs H Q E h=>?_) (λcdv A outer s H vs Q E hr h=>?_)
 ·obtain⟨n,rfl,_⟩:=h;rfl
 ·obtain⟨n,rfl,hn,q⟩:=h
  refine⟨_,aK (bJ (i:=1) aNq.nd rfl (xHg rfl) (dW (N':=aUc) (nown:=1) (js:=[]) rfl
     xbs (cF (aB yZ) NRi rfl rfl (by decide +kernel))
     ⟨λ_ _ _ _=>aP (i:=0) (show List.Nodup aUc by decide +kernel) rfl (xAx rfl) (.inr rfl),λ_ _ _ _=>dU,λ_ _ _ _=>aX nY aS (eG pQ (by rfl) T.str Bo.str (pac (pv 0) aH))⟩
     (gN rfl T.range (pac (pv 0) aH))))
   (aK (fZ (i:=2) (N':=aUb) (nown:=1) (js:=[0,1]) rfl aNq.nd rfl rfl rfl
     xbs (cF (aB yZ) NRi rfl rfl (by decide +kernel))
     ⟨λ_ _ _ _=>aP (i:=0) (show List.Nodup aUb by decide +kernel) rfl (xAx rfl) (.inr rfl),λ_ _ _ _=>dU,
      λ_ _ _ _=>hU (pac (eE (show IxR _ (zG K) from cY) (pv 2) (pv 0) (λ_ _=>rfl)) (pac aS (pac (eE (show IxR _ (zG K) from cY) (pv 2) (aX dD (aX dY (pv 0) aN) (pv 1)) (λ_ _=>rfl)) aH)))⟩
     (gN rfl T.range (pac (pv 0) aH)))
   (aK (bJ (i:=3) aNq.nd rfl (xAx rfl) (hU (pac aS (pac (cM (pac aS aH)) (pac (cM (pac (hU (pac aS (pac aS (pac aS aH)))) (pac (hU (pac aS (pac aS (pac aS aH)))) aH))) (pac (cM aH) aH))))))
   (aL (bO (cM (pac (hU (pac aS (pac (aKa aNo (pv 1) aOc (aOb aN)) (pac (aX eZ (pv 2) (cM (pac (hU (pac aS (pac aS (pac aS aH)))) aH))) (pac (cM aH) aH))))) (pac (pv 3) aH))))))),?_⟩
  refine⟨_,rfl,n,rfl,by omega,by omega,λR hR=>iP (n:=n) (λi Z' H'=>∃ v,Z'=[v]/\H' R=some (.lst (((List.range i).map nk).map V.str))/\aO H H') ?_ ?_ ?_⟩
  ·exact⟨none,rfl,aD,smu hR⟩
  ·rintro i Z' H' hi ⟨v,rfl,a1,a2⟩;have hi':i<64:=by omega
   refine⟨_,rfl,0+(i:Int),rfl,by rw[xDy]; exact qQ i hi',_,_,rfl,rfl,by rw[xDy]; exact jI (xAr (aRv i hi') (by decide)),_,a1,aR (by rw[xAa,xAa,xBv]; omega),_,rfl,?_,λb o e=>?_⟩
   ·rw[aD,xDh,xAn,xAn,xDy];rfl
   ·rw[aG (aF e hR)];exact a2 _ _ e
  rintro Z' H1 ⟨v,rfl,a1,a2⟩;have at1:∀ k,k<n->atI (((List.range n).map nk).map V.str) (k:Int)=some (.str (nk k)):=λk hk=>iF (by rw[xAg,xAg,xGg hk]; rfl);refine⟨_,rfl,n,rfl,by omega,by omega,λD hD=>iP (n:=n) (λi Z' H'=>∃ v,Z'=[v,some (.int n),some (.ref R)]/\cN H' D ((List.range i).map λk=>(nk k,("go" : Str),nk ((k+1)%n)))/\aO H1 H') ?_ ?_ ?_⟩
  ·exact⟨none,rfl,⟨[],aD,rfl,λi t x z=>nomatch z⟩,smu hD⟩
  ·rintro i Z' H' hi ⟨v,rfl,b1,b2⟩;have hmod:(i+1)%n<n:=Nat.mod_lt _ (by omega);have em:(0+(i:Int)+1)%(n:Int)=(((i+1)%n:Nat):Int):=by rw[xDy]; rfl
   refine⟨_,rfl,_,rfl,R,_,_,.str (nk i),rfl,rfl,SqL.of (b2 _ _ a1),by rw[xDy]; exact at1 i hi,_,rfl,_,rfl,_,_,rfl,rfl,_,rfl,_,_,rfl,rfl,(by show (0:Int)<n; omega),R,_,_,.str (nk ((i+1)%n)),rfl,rfl,SqL.of (b2 _ _ a1),by rw[em]; exact at1 _ hmod,by show 3<=sizeLine; decide,λtt htt=>?_⟩;obtain⟨xs,x0,x1,x2⟩:=b1.push htt (nk i,("go" : Str),nk ((i+1)%n));rw[xAa,xBv] at x1;refine⟨_,smu htt _ _ x0,aR (by omega),_,rfl,?_,λb o e=>?_⟩
   ·rw[xDh,xAn];exact x2
   ·rw[aG (aF e hD)];exact smu htt _ _ (b2 _ _ e)
  rintro Z' H2 ⟨v,rfl,b1,b2⟩;have nD:H D=none:=a2.free hD;have r2:=b2 _ _ a1;have s02:=a2.trans b2;clear a2 b2 a1 hR hD;refine⟨by show 1<=sizeLine; decide,λe1 he1=>?_⟩;have k1:aO H2 (upd H2 e1 (.lst [.str "b"])):=smu he1;have g1:(upd H2 e1 (.lst [.str "b"])) e1=some (.lst (iV.es.map V.str)):=aD;generalize upd H2 e1 (.lst [.str "b"])=Ha at k1 g1 ⊢;refine⟨by show 3<=sizeLine; decide,λt1 ht1=>?_⟩;have k2:aO Ha (upd Ha t1 (.tup [.str "a",.str "aside",.str "b"])):=smu ht1;have g2:(upd Ha t1 (.tup [.str "a",.str "aside",.str "b"])) t1=some (.tup [.str "a",.str "aside",.str "b"]):=aD;generalize upd Ha t1 (.tup [.str "a",.str "aside",.str "b"])=Hb at k2 g2 ⊢;refine⟨by show 3<=sizeLine; decide,λt2 ht2=>?_⟩;have k3:aO Hb (upd Hb t2 (.tup [.str "a",.str "go",.str "a"])):=smu ht2;have g3:(upd Hb t2 (.tup [.str "a",.str "go",.str "a"])) t2=some (.tup [.str "a",.str "go",.str "a"]):=aD;generalize upd Hb t2 (.tup [.str "a",.str "go",.str "a"])=Hc at k3 g3 ⊢;refine⟨by show 2<=sizeLine; decide,λl2 hl2=>?_⟩;have k4:aO Hc (upd Hc l2 (.lst [.ref t1,.ref t2])):=smu hl2
  have g4:cN (upd Hc l2 (.lst [.ref t1,.ref t2])) l2 iV.ds:=⟨[t1,t2],aD,rfl,λi t x hi hx=>by
   match i with
   | 0=>cases hi; cases hx; exact k4 _ _ (k3 _ _ g2)
   | 1=>cases hi; cases hx; exact k4 _ _ g3
   | i+2=>simp at hi⟩
  generalize upd Hc l2 (.lst [.ref t1,.ref t2])=Hd at k4 g4 ⊢;refine⟨by show 0<=sizeLine; decide,λl3 hl3=>?_⟩;have k5:aO Hd (upd Hd l3 (.lst [])):=smu hl3;have g5:(upd Hd l3 (.lst [])) l3=some (.lst (iV.mo.map V.str)):=aD;generalize upd Hd l3 (.lst [])=He at k5 g5 ⊢;refine⟨by show 4<=sizeLine; decide,λo4 ho4=>?_⟩;have k6:aO He (upd He o4 (.tup [.str "a",.ref e1,.ref l2,.ref l3])):=smu ho4;have k25:=k2.trans (k3.trans (k4.trans (k5.trans k6)));have g6:aIe (upd He o4 (.tup [.str "a",.ref e1,.ref l2,.ref l3])) o4 iV:=⟨e1,l2,l3,aD,k25 _ _ g1,g4.same (k5.trans k6),k6 _ _ g5⟩;generalize upd He o4 (.tup [.str "a",.ref e1,.ref l2,.ref l3])=H3 at k6 k25 g6 ⊢;have s23:=k1.trans k25;have r3:=s23 _ _ r2;have d3:=b1.same s23;have s03:=s02.trans s23;clear k1 k2 k3 k4 k5 k6 k25 g1 g2 g3 g4 g5 he1 ht1 ht2 hl2 hl3 ho4 s23 s02 b1 r2;refine⟨_,rfl,_,rfl,R,_,rfl,SqL.of r3,λe5 he5=>?_⟩;have ec:aDn (((List.range n).map nk).map V.str) none (some 3)=((gJ n).es).map V.str:=aSk _ 3;rw[ec];have k1:aO H3 (upd H3 e5 (.lst ((gJ n).es.map V.str))):=smu he5;have g1:(upd H3 e5 (.lst ((gJ n).es.map V.str))) e5=some (.lst ((gJ n).es.map V.str)):=aD;generalize upd H3 e5 (.lst ((gJ n).es.map V.str))=Ha at k1 g1 ⊢;refine⟨_,rfl,by show 3<=sizeLine; decide,λt6 ht6=>?_⟩;have k2:aO Ha (upd Ha t6 (.tup [.str "n0",.str "aside",.str "n0"])):=smu ht6;have g2:(upd Ha t6 (.tup [.str "n0",.str "aside",.str "n0"])) t6=some (.tup [.str "n0",.str "aside",.str "n0"]):=aD;generalize upd Ha t6 (.tup [.str "n0",.str "aside",.str "n0"])=Hb at k2 g2 ⊢;obtain⟨ts,z0,z1,z2⟩:=d3.ex;rw[xAa,xBv] at z1;have z0b:=k2 _ _ (k1 _ _ z0);refine⟨by show 1<=sizeLine; decide,λl6 hl6=>⟨D,l6,_,_,rfl,rfl,smu hl6 _ _ z0b,aD,jI (by rw[xAa]; simp only[List.length_cons,List.length_nil]; omega),λd7 hd7=>?_⟩⟩;have k3:aO Hb (upd (upd Hb l6 (.lst [.ref t6])) d7 (.lst (ts.map V.ref++[.ref t6]))):=(smu hl6).trans (smu hd7);have g3:(upd (upd Hb l6 (.lst [.ref t6])) d7 (.lst (ts.map V.ref++[.ref t6]))) d7=some (.lst ((ts++[t6]).map V.ref)):=by rw[aD,xAn]; rfl
  generalize upd (upd Hb l6 (.lst [.ref t6])) d7 (.lst (ts.map V.ref++[.ref t6]))=Hc at k3 g3 ⊢;have k13:=k1.trans (k2.trans k3)
  have g4:cN Hc d7 (gJ n).ds:=⟨ts++[t6],g3,by show _=((List.range n).map _++[_]).length; rw[xAj,xAj,xAa,xBv,z1]; rfl,λi t x hi hx=>by
   have hx':((List.range n).map (λk=>(nk k,("go" : Str),nk ((k+1)%n)))++[(("n0" : Str),("aside" : Str),("n0" : Str))])[i]?=some x:=hx
   by_cases hj:i<ts.length
   ·rw[xBf hj] at hi;rw[xBf (by rw[xAa,xBv]; omega)] at hx';exact k13 _ _ (z2 i t x hi hx')
   ·have hl':i=ts.length:=by
     have:=(xAc.mp hi).1
     rw[xAj] at this;simp only[List.length_cons,List.length_nil] at this;omega
    subst hl';rw[xBh (xAi _),xDg] at hi;rw[xBh (by rw[xAa,xBv]; omega),xAa,xBv,z1,xDg] at hx';cases hi;cases hx';exact k3 _ _ g2⟩
  refine⟨by show 0<=sizeLine; decide,λm8 hm8=>?_⟩;have k5:aO Hc (upd Hc m8 (.lst [])):=smu hm8;have g5:(upd Hc m8 (.lst [])) m8=some (.lst ((gJ n).mo.map V.str)):=aD;generalize upd Hc m8 (.lst [])=Hd at k5 g5 ⊢;refine⟨by show 4<=sizeLine; decide,λo9 ho9=>?_⟩;have k6:aO Hd (upd Hd o9 (.tup [.str "n0",.ref e5,.ref d7,.ref m8])):=smu ho9;have k26:=k2.trans (k3.trans (k5.trans k6));have g7:aIe (upd Hd o9 (.tup [.str "n0",.ref e5,.ref d7,.ref m8])) o9 (gJ n):=⟨e5,d7,m8,aD,k26 _ _ g1,g4.same (k5.trans k6),k6 _ _ g5⟩;generalize upd Hd o9 (.tup [.str "n0",.ref e5,.ref d7,.ref m8])=H4 at k6 k26 g7 ⊢;have s34:=k1.trans k26;refine⟨_,rfl,by show 2<=sizeLine; decide,λp hp=>q p _ ((s03.trans s34).trans (smu hp)) ((s03.trans s34).free hp) ⟨[o9,o4],aD,rfl,λi t r hi hx=>?_⟩⟩
  match i with
  | 0=>cases hi; cases hx; exact g7.same (smu hp)
  | 1=>cases hi; cases hx; exact (g6.same s34).same (smu hp)
  | i+2=>simp at hi
def rN (k:Nat):Str:=(Str.empty++("r" : Str))++Str.ofString (toString (k:Int))
theorem aJu:∀ k:Nat,k<64->aZ (rN k)=true/\(rN k).length<=100:=by decide +kernel
theorem aRg:∀ i:Nat,i<64->∀ j:Nat,j<64->rN i=rN j->i=j:=by decide +kernel
theorem aUe {α:Type}(a:α):[a].Nodup:=xEg.mpr ⟨(λh=>(nomatch h)),xIb⟩
theorem uN:∀ {fs rs:xLL},rs.Nodup->(gL rs fs).Nodup
 | [],_,h=>h
 | x::fs,rs,h=>uN (fs:=fs) (by
  by_cases q:x∈rs
  ·rw[xBe q]; exact h
  ·rw[xAy q];exact xIa.mpr ⟨h,aUe _,λa ha b hb=>by rw[xBb.mp hb]; exact λe=>q (e▸ha)⟩)
theorem aFi:∀ {fs rs:xLL}{r:List Str},r∈fs->r∈gL rs fs
 | x::fs,rs,r,h=>by
  rcases xAo.mp h with rfl | h
  ·show r∈gL (if r∈rs then rs else rs++[r]) fs
   refine jS ?_
   by_cases q:r∈rs
   ·rw[xBe q]; exact q
   ·rw[xAy q]; exact xBs _ (xBb.mpr rfl)
  ·exact aFi (fs:=fs) (rs:=if x∈rs then rs else rs++[x]) h
theorem uH {F:List Str->List (List Str)}:∀ {n i:Nat}{rs:xLL},rs.Nodup->(gE F n rs i).Nodup
 | 0,_,_,h=>h
 | n+1,i,rs,h=>by
  unfold gE;split
  ·exact uH (uN h)
  ·exact h
theorem uG {F:List Str->List (List Str)}:∀ {n i:Nat}{rs:xLL}{r:List Str},r∈rs->r∈gE F n rs i
 | 0,_,_,_,h=>h
 | n+1,i,rs,r,h=>by
  unfold gE;split
  ·exact uG (jS h)
  ·exact h
theorem rO {F:List Str->List (List Str)}:∀ {n i:Nat}{rs:xLL},61<=n+i->i<=rs.length->(∀ j r,j<i->rs[j]?=some r->∀ r'∈F r,r'∈rs)->(gE F n rs i).length<=60->∀ r∈gE F n rs i,∀ r'∈F r,r'∈gE F n rs i
 | 0,i,rs,hn,hi,_,hl=>by
  have:rs.length<=60:=hl
  omega
 | n+1,i,rs,hn,hi,hc,hl=>by
  unfold gE at hl ⊢
  by_cases q:i<rs.length/\rs.length<=60
  ·rw[xBe q] at hl ⊢;have hrs:=xAh q.1;have e:rs.getD i []=rs[i]:=by rw[xCk,hrs]; rfl
   rw[e] at hl ⊢;generalize rs[i]=r0 at hrs hl ⊢;refine rO (by omega) (by have:=sE (rs:=rs) (fs:=F r0); omega) (λj r hj hr r' hr'=>?_) hl;rw[pV (by omega)] at hr
   by_cases ej:j=i
   ·subst ej;rw[hrs] at hr;cases hr;exact aFi hr'
   ·exact jS (hc j r (by omega) hr r' hr')
  ·rw[xAy q] at hl ⊢
   have hi':i=rs.length:=by
    have:¬ i<rs.length:=λz=>q ⟨z,hl⟩
    omega
   intro r hr r' hr';obtain⟨j,hj,ej⟩:=xHm.mp hr;exact hc j r (by omega) (by rw[xAh hj,ej]) r' hr'
section
variable (ms:List MW) (S:List Str)
def rOf (r:List Str):Str:=rN ((bU ms S).idxOf r)
def jQ:List Str:=((bU ms S).filter λr=>iX ms r).map (rOf ms S)
def eO:List Dr:=(bU ms S).flatMap λr=>(dF ms (jL ms S r) r).map λp=>(rOf ms S r,p.1,rOf ms S p.2)
end
section
variable {ms:List MW}{S:List Str}
theorem gO:(bU ms S).Nodup:=uH (aUe _)
theorem rP:ms.map (·.b)∈bU ms S:=uG (xBb.mpr rfl)
theorem uI (h:(bU ms S).length<=60){r r':List Str}{z:Str}(hr:r∈bU ms S)(hz:z∈S)(hw:wto ms r z=some r'):r'∈bU ms S:=
 rO (by decide) (xCa _) (λj _ hj=>xBg hj (Nat.not_lt_zero _)) h r hr r' (xBz.mpr ⟨z,hz,hw⟩)
theorem xQ (h:(bU ms S).length<=60){r:List Str}(hr:r∈bU ms S):(bU ms S).idxOf r<64:=by
 have:=xGf hr
 omega
theorem oX (h:(bU ms S).length<=60){r r':List Str}(hr:r∈bU ms S)(hr':r'∈bU ms S)(e:rOf ms S r=rOf ms S r'):r=r':=by
 have ei:=aRg _ (xQ h hr) _ (xQ h hr') e;have l1:=xGf hr;have e1:=List.getElem_idxOf l1;have l2:=xGf hr';have e2:=List.getElem_idxOf l2;rw[<- e1,<- e2];congr 1
theorem qD (h:(bU ms S).length<=60):rOf ms S (ms.map (·.b))=rN 0:=by
 have:(bU ms S)[0]?=some (ms.map (·.b)):=by
  have:∀ {F:List Str->List (List Str)}{n i:Nat}{rs:xLL},0<rs.length->(gE F n rs i)[0]?=rs[0]?:=by
   intro F n
   induction n with
   | zero=>intro i rs _; rfl
   | succ n ih=>
    intro i rs hp;unfold gE;split
    ·rw[ih (xAq hp sE),pV hp]
    ·rfl
  rw[this (by show 0<1; decide)];rfl
 obtain⟨hl,e⟩:=xAc.mp this;unfold rOf;rw[<- e,xGv gO]
theorem hZ {x:Dr}:x∈eO ms S↔∃ r∈bU ms S,∃ z∈S,∃ r',wto ms r z=some r'/\x=(rOf ms S r,z,rOf ms S r'):=by
 unfold eO;rw[xDe];constructor
 ·rintro⟨r,hr,hx⟩;obtain⟨p,hp,rfl⟩:=xBc.mp hx;obtain⟨z,hz,rfl⟩:=xBc.mp hp;obtain⟨hzS,hs⟩:=xCc.mp hz;obtain⟨r',er⟩:=xCv.mp hs;exact⟨r,hr,z,hzS,r',er,by rw[er]; rfl⟩
 ·rintro⟨r,hr,z,hz,r',er,rfl⟩;refine⟨r,hr,xBc.mpr ⟨(z,(wto ms r z).getD []),xBc.mpr ⟨z,xCc.mpr ⟨hz,by rw[er]; rfl⟩,rfl⟩,by rw[er]; rfl⟩⟩
theorem aLd (h:(bU ms S).length<=60){r:List Str}{z:Str}(hr:r∈bU ms S)(hz:z∈S):gT (eO ms S) (rOf ms S r) z=(wto ms r z).map (rOf ms S):=by
 unfold gT;cases hw:wto ms r z with
 | none=>
  rw[xGk.mpr λx hx e=>?_]
  ·rfl
  ·obtain⟨r2,hr2,z2,hz2,r',er,rfl⟩:=hZ.mp hx;have e':=xEc.mp e;have e1:=oX h hr2 hr (xAp e'.1);have e2:z2=z:=xAp e'.2;rw[e1,e2,hw] at er;cases er
 | some r'=>
  have hm:(rOf ms S r,z,rOf ms S r')∈eO ms S:=hZ.mpr ⟨r,hr,z,hz,r',hw,rfl⟩
  obtain⟨y,hy⟩:∃ y,(eO ms S).find? (λu=>decide (u.1=rOf ms S r)&&decide (u.2.1=z))=some y:=by
   rw[<- xCv,List.find?_isSome];exact⟨_,hm,by simp⟩
  rw[hy];have hp:=List.find?_some hy;obtain⟨r2,hr2,z2,hz2,r3,er,e3⟩:=hZ.mp (xGl hy);subst e3;have e':=xEc.mp hp;have e1:=oX h hr2 hr (xAp e'.1);have e2:z2=z:=xAp e'.2;rw[e1,e2,hw] at er;cases er;rfl
end
theorem aAv {F:List Str->List (List Str)}{Ok:List Str->Prop}(hF:∀ r,Ok r->∀ r'∈F r,Ok r'):∀ {n i:Nat}{rs:xLL},(∀ r∈rs,Ok r)->∀ r∈gE F n rs i,Ok r
 | 0,_,_,h=>h
 | n+1,i,rs,h=>by
  unfold gE
  by_cases q:i<rs.length/\rs.length<=60
  ·rw[xBe q];have hrs:=xAh q.1;have e:rs.getD i []=rs[i]:=by rw[xCk,hrs]; rfl
   rw[e];refine aAv hF λr hr=>?_;rcases lZ hr with hr | hr
   ·exact h r hr
   ·exact hF _ (h _ (xCt q.1)) r hr
  ·rw[xAy q];exact h
theorem aAw {ms:List MW}{S:List Str}(hN:∀ m∈ms,m.rs.all aZ=true):∀ r∈bU ms S,ROk ms r:=
 aAv (λr hr r' hr'=>by
  obtain⟨z,_,hz⟩:=xBz.mp hr';exact hr.far hN hz) λr hr=>by rw[xBb.mp hr]; exact ROk.begin hN
section
variable {ms:List MW}{S:List Str}
theorem zF (h:(bU ms S).length<=60){r:List Str}(hr:r∈bU ms S):aZ (rOf ms S r)=true:=(aJu _ (xQ h hr)).1
theorem qK (h:(bU ms S).length<=60):∀ z∈cH (rN 0) (jQ ms S) (eO ms S),∃ r∈bU ms S,z=rOf ms S r:=λz hz=>by
 rcases xCp.mp hz with hz | hz
 ·rcases xAo.mp hz with rfl | hz
  ·exact⟨_,rP,(qD h).symm⟩
  ·obtain⟨r,hr,rfl⟩:=xBc.mp hz;exact⟨r,(xCc.mp hr).1,rfl⟩
 ·obtain⟨x,hx,hz⟩:=xDe.mp hz;obtain⟨r,hr,y,hy,r',er,rfl⟩:=hZ.mp hx;rcases xAo.mp hz with rfl | hz
  ·exact⟨r,hr,rfl⟩
  ·rw[xBb.mp hz];exact⟨r',uI h hr hy er,rfl⟩
theorem xL (h:(bU ms S).length<=60):(cH (rN 0) (jQ ms S) (eO ms S)).all aZ=true:=xBn.mpr λz hz=>by
 obtain⟨r,hr,rfl⟩:=qK h z hz;exact zF h hr
theorem aCp (h:(bU ms S).length<=60):(mks (cH (rN 0) (jQ ms S) (eO ms S)) []).length<=60:=by
 rw[aEu];refine xAr (dO (N:=(bU ms S).map (rOf ms S)) λz hz=>?_) (by rw[xAa]; exact h);obtain⟨r,hr,rfl⟩:=qK h z hz;exact xBc.mpr ⟨r,hr,rfl⟩
theorem xM (h:(bU ms S).length<=60)(nd:S.Nodup):Apart (eO ms S):=by
 refine xEf.mpr (xJy.mpr ⟨λr hr=>?_,?_⟩)
 ·refine xEf.mpr (xEf.mpr (xGu (λ{a b} hne e=>?_) (nd.filter _)));exact hne (Prod.mk.inj e).2
 ·refine xFe (λ{a b} ha hb hne x hx y hy e=>?_) gO;obtain⟨p,_,rfl⟩:=xBc.mp hx;obtain⟨p',_,rfl⟩:=xBc.mp hy;exact hne (oX h ha hb (Prod.mk.inj e).1)
theorem qL (h:(bU ms S).length<=60):(jQ ms S).length<=60:=by
 unfold jQ;rw[xAa];exact xAr (xCw ..) h
theorem uA {α β:Type}{f:α->List β}{k:Nat}:∀ {l:List α},(∀ a∈l,(f a).length<=k)->(l.flatMap f).length<=k*l.length
 | [],_=>xCa _
 | a::l,h=>by
  have h1:=h a (xBk ..);have h2:=uA (l:=l) λb hb=>h b (xBi _ hb);rw[List.flatMap_cons,xAj,xBd,Nat.mul_succ];omega
theorem sI (r:List Str):(dF ms (jL ms S r) r).length<=S.length:=by
 unfold dF jL;rw[xAa];exact xCw ..
theorem aCq (h:(bU ms S).length<=60)(h12:S.length<=12):(eO ms S).length<=720:=by
 have:=uA (k:=12) (l:=bU ms S) (f:=λr=>(dF ms (jL ms S r) r).map λp=>(rOf ms S r,p.1,rOf ms S p.2)) λr _=>by
  rw[xAa];exact xAr (sI r) h12
 unfold eO;omega
def nmK (ms:List MW)(S:List Str)(rs:xLL):List (List Key×V):=rs.map λr=>(r.map Sum.inr,V.str (rOf ms S r))
theorem zX (rs:xLL):(nmK ms S rs).map (·.1)=rs.map λr=>r.map Sum.inr:=by
 unfold nmK;rw[xDx];rfl
theorem jE:∀ {rs:xLL}{r:List Str},r∈rs->dC (nmK ms S rs) (r.map Sum.inr)=some (.str (rOf ms S r))
 | x::rs,r,h=>by
  unfold nmK dC;rw[xCd,xDr]
  by_cases e:x=r
  ·rw[e,xAv rfl];rfl
  ·rw[xBj λz=>e (xO z)];exact jE ((xAo.mp h).resolve_left λz=>e z.symm)
end
theorem aEs {α:Type}{l:List α}(h:l.Nodup){i:Nat}{a:α}(e:l[i]?=some a):¬ a∈l.take i:=λhm=>by
 obtain⟨j,hj,ej⟩:=xHm.mp hm;rw[xAt] at hj;rw[List.getElem_take] at ej;have hi:=(xAc.mp e).1
 have:=(xFl (i:=j) (j:=i) (by omega) h).mp (by rw[e,xAh (by omega),ej])
 omega
theorem dQ.tf {H:Hp}{a b:Addr}{o:Obj}{kvs:List (List Key×V)}{k:List Key}(e:H a=some (.frz o (.dT kvs)))(eb:H b=some (.tup (k.map kV))):dQ H a (.ref b) (dC kvs k):=.inr ⟨kvs,k,b,.inr ⟨o,e⟩,rfl,eb,rfl⟩
inductive aBp (C CM CW cT Pr:Addr)(vs:List V)(H:Hp)(Q:VK)(E:XK):Prop
 | mk (v x:Addr)(ms:List MW)(S:List Str)(wk:List (Key×V))(h0_:vs=[.ref v])(h1_:Wv CM CW H v x ms)(h2_:1<=ms.length/\ms.length<=100)(h3_:∀ m∈ms,m.rs.all aZ=true)(h4_:WAt C H x wk)(h5_:∀ z∈wkn ms,z∈S)(h6_:S.length<=12)(h7_:∀ z∈S,dM wk (.str z)=true)
  (h8_:xBr S=true)(h9_:S.Nodup)(h10_:Tab nU nQ Pr H)
  (h11_:(bU ms S).length<=60->∀ (X:Addr) (kn:List Str) H',aO (off H Pr) H'->Tab nU nQ Pr H'->(∀ z,z∈kn↔z∈wkn ms)->MM CM H' X x (rN 0) (jQ ms S) kn (eO ms S)->Q (.ref X) H')
  (h12_:60<(bU ms S).length->∀ H',aO (off H Pr) H'->Tab nU nQ Pr H'->E (.ref cT) none H')
abbrev NMO:List Str:=["woven","names","place","room","doors","deed","far","ends"]
theorem wX:aQ NMO ["woven"] (aB oQ):=xfs
abbrev aUd:List Str:=["room","names","woven"]
theorem aOl {f fWR fWy fWE fWD fWB fWK fMI C CM CW cT Pr:Addr}{fd fdWR fdWy fdWE fdWD fdWB fdWK fdMI:FuncData}(F:Fun K "made_one" "made_one" oQ f fd)(T:Txt K mg)(WC:rU K CW)
  (GWR:aY P w K mg base (CXE P w) 10 fWR fdWR ["self"] (yN C CM CW cT Pr))(bWR:aW K fdWR ["self"] [])(mWR:fV K CW "rooms" fWR)
  (GWy:aY P w K mg base CX0 6 fWy fdWy ["self","room"] (rW K C CM CW))(bWy:aW K fdWy ["self","room"] [])(mWy:fV K CW "ways" fWy)
  (GWE:aY P w K mg base CX0 5 fWE fdWE ["self","room"] (yO K CM CW))(bWE:aW K fdWE ["self","room"] [])(mWE:fV K CW "is_end" fWE)
  (GWD:aY P w K mg base CX0 2 fWD fdWD ["self"] (sP CM CW))(bWD:aW K fdWD ["self"] [])(mWD:fV K CW "deeds" fWD)
  (GWB:aY P w K mg base CX0 3 fWB fdWB ["self"] (sQ CM CW))(bWB:aW K fdWB ["self"] [])(mWB:fV K CW "begin" fWB)
  (GWK:aY P w K mg base CX0 1 fWK fdWK ["self"] (sN CM CW))(bWK:aW K fdWK ["self"] [])(mWK:fV K CW "knows" fWK)
  (GMI:aY P w K mg base (CXE P w) 4 fMI fdMI ["self","deeds","begin","ends","doors","more"] (wU K C CM))(MMk:Mk K CM fMI)(bMI:aW K fdMI ["self","deeds","begin","ends","doors","more"] [])(mMa:mg "Machine" = some (.ref CM)) :
  aY P w K mg base (CXE P w) 11 f fd ["woven"] (aBp C CM CW cT Pr):=by
 refine okE F wX (λvs H Q E h=>?_) (λcdv A outer s H vs Q E hr h D=>?_)
 ·obtain⟨v,x,ms,S,wk,rfl,_⟩:=h;rfl
 ·obtain⟨v,x,ms,S,wk,rfl,W,hl,hN,hW,hkS,h12,hg,so,nd,TB,q1,q2⟩:=h;have hu:=iI hr;have hr1:cL 1 _:=hr.mono (by decide);have hr2:cL 2 _:=hr.mono (by decide);have hr3:cL 3 _:=hr.mono (by decide);have hr5:cL 5 _:=hr.mono (by decide);have hr6:cL 6 _:=hr.mono (by decide)
  refine⟨_,aK (bJ (i:=1) wX.nd rfl (xHg rfl) tM)
   (aK (dI PassesOwn.leaving rfl (iZ rfl T.enum (pac (dS (E:=E) (pv 0) WC.cl mWR GWR hr bWR .nil (D.passes λ_ _ _ z=>z)) aH)) (eC rfl (aU (aP (i:=2) wX.nd rfl (xAx rfl)) (aU (aP (i:=3) wX.nd rfl (xAx rfl)) dG)))
    (aL (iL hu (pv 1) (pv 3) (aKc aS (aEo (pv 2))) rfl)))
   (aK (bJ (i:=4) wX.nd rfl (xAx rfl) (cM aH))
   (aK (dI PassesOwn.leaving rfl (zL (tL (pv 1))) (aP (i:=3) wX.nd rfl (xAx rfl))
    (aL (dI PassesOwn.leaving rfl (cS (eA (pv 0) WC.cl mWy GWy hr6 bWy .nil cA (pac (pv 3) aH))) (eC rfl (aU (aP (i:=5) wX.nd rfl (xAx rfl)) (aU (aP (i:=6) wX.nd rfl (xAx rfl)) dG)))
     (aL (cW (kU xBq xCo xCn eX (pv 4) (pac (hU (pac (eB hu (pv 1) (pv 3) (λ_ _=>rfl)) (pac (pv 5) (pac (eB hu (pv 1) (pv 6) (λ_ _=>rfl)) aH)))) aH)))))))
   (aK (fZ (i:=7) (N':=aUd) (nown:=1) (js:=[1,0]) rfl wX.nd rfl rfl rfl
     xbs (cF (aB oQ) NMO rfl rfl (by decide +kernel))
     ⟨λ_ _ _ _=>aP (i:=0) (show List.Nodup aUd by decide +kernel) rfl (xAx rfl) (.inr rfl),λ_ _ _ _=>jZ (kE (eA (pv 2) WC.cl mWE GWE hr5 bWE .nil cA (pac (pv 0) aH))),λ_ _ _ _=>eB hu (pv 1) (pv 0) (λ_ _=>rfl)⟩
     (zL (tL (pv 1))))
   (aL (bO (pA (E:=E0) MMk GMI hr5 rfl mMa bMI .nil nM (pac (dS (pv 0) WC.cl mWD GWD hr2 bWD .nil cA) (pac (eB hu (pv 1) (dS (pv 0) WC.cl mWB GWB hr3 bWB .nil cA) (λ_ _=>rfl)) (pac (pv 7) (pac (pv 4) (pac (dS (pv 0) WC.cl mWK GWK hr1 bWK .nil cA) aH)))))))))))),?_⟩
  intro nm hnm;have s1:aO H (upd H nm (.dT [])):=smu hnm;have e1:(upd H nm (.dT [])) nm=some (.dT (nmK ms S [])):=aD;generalize upd H nm (.dT [])=H1 at s1 e1 ⊢;have W1:=W.same s1;have hW1:=fX hW s1;have T1:=TB.same s1;obtain⟨dv,lm,lk',kn',hi1,_⟩:=id W1;refine⟨_,rfl,v,dv,_,rfl,hi1,dN _ _ _ (by decide),v,x,ms,S,wk,rfl,W1,hl,hN,hW1,hkS,by omega,hg,so,nd,T1,λhle L bs H2 s2 n2 T2 eL tp2=>?_,λhgt H2 s2 T2=>q2 hgt H2 ((tR s1).trans s2) T2⟩;have q1':=q1 hle;clear q1 q2;have nt2:=aEq T1.tb s2;have W2:=ntV nt2 W1;have hW2:=ntW nt2 hW1;obtain⟨psr,hpr⟩:=T1.tb;have e2:H2 nm=some (.dT (nmK ms S [])):=s2 _ _ (lO (fO e1 hpr (λz=>nomatch z)) e1);have sO:aO (off H Pr) H2:=(tR s1).trans s2;have okr:=aAw (ms:=ms) (S:=S) hN;have inr:=λ(r:List Str) (hr:r∈bU ms S) (z:Str) (hz:z∈S) (r':List Str) (hw:wto ms r z=some r')=>uI hle hr hz hw;have ndr:(bU ms S).Nodup:=gO;have bgn:ms.map (·.b)∈bU ms S:=rP;have eDo:(bU ms S).flatMap (λr=>(dF ms (jL ms S r) r).map λp=>(rOf ms S r,p.1,rOf ms S p.2))=eO ms S:=rfl;have eEn:((bU ms S).filter λr=>iX ms r).map (rOf ms S)=jQ ms S:=rfl
  have eIx:∀ i r,(bU ms S)[i]?=some r->rOf ms S r=rN i:=λi r h=>by
   obtain⟨hi,e⟩:=xAc.mp h;unfold rOf;rw[<- e,xGv ndr]
  have lbs:bs.length=(bU ms S).length:=Paired.length tp2;have dl:=aCq hle h12;have el:=qL hle;have hap:=xM hle nd;have hrn:=xL hle;have hrf:=aCp hle;have hb0:=qD hle;have hnm':=hnm;clear s2 nt2 W1 hW1 T1 hi1 e1 s1 hW W TB hnm;generalize bU ms S=rs at *;refine⟨L,rfl,⟨_,SqL.of eL⟩,?_⟩;refine pJ (xs:=bs.map V.ref) (λi Z H'=>∃ x2 x3:Option V,Z=[some (.ref v),some (.ref nm),x2,x3,none,none,none,none]/\H' nm=some (.dT (nmK ms S (rs.take i)))/\SameBut nm H2 H') ?_ ?_ ?_ ?_
  ·exact⟨_,_,rfl,e2,λb o _ e=>e⟩
  ·rintro i Z H' _ ⟨x2,x3,rfl,a1,a2⟩;exact SqL.of (a2 _ _ (fO eL e2 (λz=>nomatch z)) eL)
  ·rintro i u Z H' t hv ⟨x2,x3,rfl,a1,a2⟩ ht;rw[xAg] at hv;cases hb:bs[i]? with
   | none=>rw[hb] at hv; cases hv
   | some b=>
    rw[hb] at hv;cases hv;obtain⟨r,hr,hbr⟩:=tp2.get hb;have hi:i<rs.length:=(xAc.mp hr).1;have hb':=a2 _ _ (fO hbr e2 (λz=>nomatch z)) hbr;have k1:aO H' (upd H' t (.tup [.int i,.ref b])):=smu ht;have et:(upd H' t (.tup [.int i,.ref b])) t=some (.tup [.int i,.ref b]):=aD;generalize upd H' t (.tup [.int i,.ref b])=H3 at k1 et ⊢;refine⟨t,_,rfl,SqT.of et,rfl,_,_,rfl,_,_,rfl,rfl,?_⟩;have hln:=(aJu i (by omega)).2;refine⟨_,rfl,by decide +kernel,_,rfl,(i:Int),rfl,qQ i (by omega),_,rfl,jI (xAr hln (by decide)),jI (xAr hln (by decide)),_,rfl,_,rfl,nm,_,rfl,oI.t (k:=r.map Sum.inr) (k1 _ _ a1) (by rw[gK]; exact k1 _ _ hb') (aR (by unfold nmK; rw[xAa,xAt]; omega)),?_⟩;refine⟨_,_,rfl,?_,λb o n e=>by rw[aG n]; exact k1 _ _ (a2 b o n e)⟩;rw[aD,xH]
    ·rw[xBl,hr];unfold nmK;rw[xAn];show _=some (HO.dT (_++[(r.map Sum.inr,V.str (rOf ms S r))]));rw[eIx i r hr];rfl
    ·rw[tV (zX _),xBj];exact aEs ndr hr
  rintro Z H3 ⟨x2,x3,rfl,a1,a2⟩;rw[xAa,lbs,xBa] at a1;refine⟨by show 0<=sizeLine; decide,λdd hdd=>?_⟩;have nmd:nm≠dd:=aF a1 hdd;refine⟨_,rfl,.mk nm _ rfl (smu hdd _ _ a1) λo=>⟨nm,o,_,rfl,aD,?_⟩⟩;have B0:∀ b u,b≠nm->H2 b=some u->(upd H3 nm (.frz o (.dT (nmK ms S rs)))) b=some u:=λb u n e=>by rw[aG n]; exact a2 b u n e
  have Bn:(upd H3 nm (.frz o (.dT (nmK ms S rs)))) nm=some (.frz o (.dT (nmK ms S rs))):=aD;have Bd:(upd H3 nm (.frz o (.dT (nmK ms S rs)))) dd=none:=by rw[aG (Ne.symm nmd)]; exact hdd
  have B5:aO (upd H3 nm (.frz o (.dT (nmK ms S rs)))) (upd (upd H3 dd (.lst [])) nm (.frz o (.dT (nmK ms S rs)))):=λb u e=>by
   by_cases n:b=nm
   ·rw[n,aD] at e ⊢;exact e
   ·rw[aG n] at e ⊢;exact smu hdd _ _ e
  have D5:cN (upd (upd H3 dd (.lst [])) nm (.frz o (.dT (nmK ms S rs)))) dd []:=⟨[],by rw[aG (Ne.symm nmd),aD]; rfl,rfl,λi t x z=>nomatch z⟩;generalize upd H3 nm (.frz o (.dT (nmK ms S rs)))=B at B0 Bn Bd B5;generalize upd (upd H3 dd (.lst [])) nm (.frz o (.dT (nmK ms S rs)))=H5 at B5 D5 ⊢;have ntB:NTb H2 B:=λb u e p=>B0 b u (aQb e2 (λz=>z) e p) e;have WB:=ntV ntB W2;have hWB:=ntW ntB hW2;have TB:Tab nU nQ Pr B:=T2.elim (λh=>.inl (B0 _ _ (fO h e2 (λz=>nomatch z)) h)) λ⟨c',h1,h2⟩=>.inr ⟨c',B0 _ _ (fO h1 e2 (λz=>nomatch z)) h1,B0 _ _ (fO h2 e2 (λz=>nomatch z)) h2⟩;have sOB:aO (off H Pr) B:=λb u e=>B0 _ _ (λz=>by have:=sO _ _ e; rw[z] at e; rw[(pF e).2] at hnm'; cases hnm') (sO _ _ e);have knm:(nmK ms S rs).length=rs.length:=by unfold nmK; rw[xAa]
  have kvr:∀ (i:Nat) (kv:List Key×V),(nmK ms S rs)[i]?=some kv->∃ r,rs[i]?=some r/\kv=(r.map Sum.inr,V.str (rOf ms S r)):=λi kv hkv=>by
   unfold nmK at hkv;rw[xAg] at hkv;cases hr:rs[i]? with
   | none=>rw[hr] at hkv; cases hkv
   | some r=>rw[hr] at hkv; cases hkv; exact⟨r,rfl,rfl⟩
  have S64:S.length<64:=by omega
  clear a1 a2 hdd B0 e2 eL tp2 n2 T2 W2 hW2 ntB;refine aHm (kvs:=nmK ms S rs) (λi Z H'=>∃ x2 x3 x5 x6:Option V,Z=[some (.ref v),some (.ref nm),x2,x3,some (.ref dd),x5,x6,none]/\cN H' dd ((rs.take i).flatMap λr=>(dF ms (jL ms S r) r).map λp=>(rOf ms S r,p.1,rOf ms S p.2))/\aO B H') ?_ ?_ ?_ ?_
  ·exact⟨_,_,_,_,rfl,D5,B5⟩
  ·rintro i Z H' _ ⟨x2,x3,x5,x6,rfl,a1,a2⟩;exact a2 _ _ Bn
  ·rintro i kv b Z H' hkv hb ⟨y2,y3,y5,y6,rfl,a1,a2⟩;obtain⟨r,hr,rfl⟩:=kvr i kv hkv;have hrm:=xAu hr;have hb:H' b=some (.tup (r.map V.str)):=by rw[<- gK]; exact hb
   have WH:=WB.same a2;obtain⟨dvh,lmh,lkh,knh,hih,_⟩:=id WH;refine⟨_,rfl,v,dvh,_,rfl,hih,dN _ _ _ (by decide),_,rfl,v,x,b,ms,r,S,wk,rfl,WH,hb,okr r hrm,hl,fX hWB a2,hkS,S64,hg,so,nd,λl H6 s6 n6 Wy=>?_⟩;obtain⟨ts,w0,w1,w2⟩:=Wy.ex;obtain⟨us0,u0,u1,_⟩:=id a1.ex;have ld:l≠dd:=λz=>by rw[z,u0] at n6; cases n6
   have dd6:=s6 _ _ u0;have nB:aO B H6:=a2.trans s6
   have fmem:∀ z∈dF ms (jL ms S r) r,z.2∈rs:=λz hz=>by
    obtain⟨y,hy,rfl⟩:=xBc.mp hz;obtain⟨hyS,hs⟩:=xCc.mp hy;obtain⟨r',er⟩:=xCv.mp hs;show (wto ms r y).getD []∈rs;rw[er];exact inr r hrm y hyS r' er
   have wl:(dF ms (jL ms S r) r).length<=12:=xAr (sI r) h12
   have pl:=uA (k:=12) (l:=rs.take i) (f:=λr=>(dF ms (jL ms S r) r).map λp=>(rOf ms S r,p.1,rOf ms S p.2)) λr _=>by
    rw[xAa];exact xAr (sI r) h12
   rw[xAt] at pl
   have etk:(rs.take (i+1)).flatMap (λr=>(dF ms (jL ms S r) r).map λp=>(rOf ms S r,p.1,rOf ms S p.2))=(rs.take i).flatMap (λr=>(dF ms (jL ms S r) r).map λp=>(rOf ms S r,p.1,rOf ms S p.2))++(dF ms (jL ms S r) r).map λp=>(rOf ms S r,p.1,rOf ms S p.2):=by
    rw[xBl,hr,List.flatMap_append,Option.toList_some,List.flatMap_cons,List.flatMap_nil,xBm]
   refine⟨l,rfl,⟨_,SqL.of w0⟩,?_⟩;generalize (rs.take i).flatMap (λr=>(dF ms (jL ms S r) r).map λp=>(rOf ms S r,p.1,rOf ms S p.2))=pre at a1 pl etk;generalize dF ms (jL ms S r) r=fs at w1 w2 fmem wl etk;refine dH (xs:=ts.map V.ref) (λj Z H7=>∃ z5 z6:Option V,Z=[some (.ref v),some (.ref nm),y2,some (.ref b),some (.ref dd),z5,z6,none]/\cN H7 dd (pre++(fs.take j).map λp=>(rOf ms S r,p.1,rOf ms S p.2))/\SameBut dd H6 H7/\aO B H7) ?_ ?_ ?_ ?_
   ·exact⟨_,_,rfl,by rw[List.take_zero,xHh,xBm]; exact a1.same s6,λb o _ e=>e,nB⟩
   ·rintro j Z H7 _ ⟨z5,z6,rfl,c1,c2,c3⟩;exact SqL.of (c2 _ _ ld w0)
   ·rintro j vv Z H7 hv ⟨z5,z6,rfl,c1,c2,c3⟩;rw[xAg] at hv;cases hy:ts[j]? with
    | none=>rw[hy] at hv; cases hv
    | some y=>
     rw[hy] at hv;cases hv;have hj:j<fs.length:=by rw[<- w1]; exact (xAc.mp hy).1
     have hz:=xAh hj;have hzm:fs[j]∈fs:=xCt hj;generalize fs[j]=z at hz hzm;obtain⟨u,w3,w4⟩:=w2 j y z hy hz;have w3':=c2 _ _ (fO w3 dd6 (λz=>nomatch z)) w3;have w4':=c2 _ _ (fO w4 dd6 (λz=>nomatch z)) w4;have b7:=c2 _ _ (fO (s6 _ _ hb) dd6 (λz=>nomatch z)) (s6 _ _ hb);have n7:=c3 _ _ Bn;have g1:=dQ.tf (k:=r.map Sum.inr) n7 (b:=b) (by rw[gK]; exact b7);rw[jE hrm] at g1;have g2:=dQ.tf (k:=z.2.map Sum.inr) n7 (b:=u) (by rw[gK]; exact w4');rw[jE (fmem z hzm)] at g2;obtain⟨vs,v0,v1,_⟩:=id c1.ex;refine⟨y,_,rfl,SqT.of w3',rfl,_,_,rfl,_,_,rfl,rfl,?_⟩;refine⟨_,rfl,.inl ⟨rfl,_,SqL.of v0⟩,_,rfl,_,rfl,nm,_,rfl,g1,_,rfl,_,rfl,_,rfl,nm,_,rfl,g2,by show 3<=sizeLine; decide,λtt htt=>?_⟩;obtain⟨xs,x0,x1,xd⟩:=c1.push htt (rOf ms S r,z.1,rOf ms S z.2);rw[v0] at x0;cases x0;refine⟨dd,_,_,rfl,rfl,smu htt _ _ v0,aR (by rw[xAa,v1,xAj,xAa,xAt]; omega),?_⟩;refine⟨_,_,rfl,?_,λb' o' n e=>by rw[aG n]; exact smu htt _ _ (c2 b' o' n e),λb' o' e=>by rw[aG (aF e Bd)]; exact smu htt _ _ (c3 _ _ e)⟩;rw[xBl,hz,xAn,<- xFn];exact xd
   ·rintro Z H7 ⟨z5,z6,rfl,c1,c2,c3⟩;rw[xAa,w1,xBa] at c1;exact⟨_,_,_,_,rfl,by rw[etk]; exact c1,c3⟩
  rintro Z H6 ⟨y2,y3,y5,y6,rfl,a1,a2⟩;rw[knm,xBa,eDo] at a1;have n6:=a2 _ _ Bn;refine⟨_,rfl,.no o nm _ rfl n6 ⟨nm,o,_,rfl,n6,λD2 hD2=>?_⟩⟩;refine aIa (kvs:=nmK ms S rs) (λi Z' H'=>∃ v0,Z'=[v0,some (.ref nm),some (.ref v)]/\H' D2=some (.lst ((((rs.take i).filter λr=>iX ms r).map (rOf ms S)).map V.str))/\aO H6 H') ?_ ?_ ?_ ?_
  ·exact⟨none,rfl,aD,smu hD2⟩
  ·rintro i Z' H' _ ⟨v0,rfl,c1,c2⟩;exact c2 _ _ n6
  ·rintro i kv b Z' H' hkv hb ⟨v0,rfl,c1,c2⟩;obtain⟨r,hr,rfl⟩:=kvr i kv hkv;have hrm:=xAu hr;have hb:H' b=some (.tup (r.map V.str)):=by rw[<- gK]; exact hb
   have WH:=WB.same (a2.trans c2);obtain⟨dvh,lmh,lkh,knh,hih,_⟩:=id WH
   have ef:(rs.take (i+1)).filter (λr=>iX ms r)=(rs.take i).filter (λr=>iX ms r)++(if iX ms r=true then [r] else []):=by
    rw[xBl,hr,xHw];congr 1;show List.filter _ [r]=_;rw[xFx,xIn]
   have lf:((rs.take i).filter λr=>iX ms r).length<=60:=xAr (xCw ..) (by rw[xAt]; omega);refine⟨_,rfl,v,dvh,_,rfl,hih,dN _ _ _ (by decide),_,rfl,v,x,b,ms,r,rfl,WH,SqT.of hb,okr r hrm,hl.2,λH7 s7=>⟨_,rfl,?_⟩⟩;cases hw:iX ms r with
   | false=>
    refine gP ⟨_,rfl,?_,c2.trans s7⟩;rw[ef,hw]
    simpa using s7 _ _ c1
   | true=>
    have g1:=dQ.tf (k:=r.map Sum.inr) (s7 _ _ (c2 _ _ n6)) (b:=b) (by rw[gK]; exact s7 _ _ hb);rw[jE hrm] at g1;refine jR ⟨_,rfl,_,rfl,nm,_,rfl,g1,_,s7 _ _ c1,aR (by rw[xAa,xAa]; omega),_,rfl,?_,λb o e=>?_⟩
    ·rw[aD,ef,hw,xAn,xAn];rfl
    ·rw[aG (aF e hD2)];exact s7 _ _ (c2 _ _ e)
  rintro Z' H8 ⟨v0,rfl,c1,c2⟩;rw[knm,xBa,eEn] at c1;have s8:=a2.trans c2;have W8:=WB.same s8;obtain⟨dvh,lmh,lkh,knh,hih,_⟩:=id W8;refine⟨_,rfl,v,dvh,_,rfl,hih,dN _ _ _ (by decide),v,x,ms,rfl,W8,hl.1,_,rfl,_,rfl,v,dvh,_,rfl,hih,dN _ _ _ (by decide),v,x,ms,rfl,W8,hl.2,λbg H9 s9 n9 e9=>?_⟩;have g1:=dQ.tf (k:=(ms.map (·.b)).map Sum.inr) (s9 _ _ (c2 _ _ n6)) (b:=bg) (by rw[gK]; exact e9);rw[jE bgn,hb0] at g1;have W9:=W8.same s9;have s9B:=s8.trans s9;obtain⟨dv9,lm9,lk9,kn9,hi9,_⟩:=id W9;refine⟨nm,_,rfl,g1,_,rfl,_,rfl,_,rfl,v,dv9,_,rfl,hi9,dN _ _ _ (by decide),v,x,ms,S,rfl,W9,hkS,S64,λkl kts H10 s10 n10 e10 S10 X dX hX hdX _=>?_⟩;have s10B:=s9B.trans s10;have k1:aO H10 (upd (upd H10 dX (.own X)) X (.ins CM dX [])):=λb o' e'=>by rw[aG (aF e' hX),aG (aF e' hdX)]; exact e'
  have hkn:∀ z,z∈dJ (eO ms S) kts↔z∈wkn ms:=λz=>by
   unfold dJ;rw[xCp,S10.mem];refine⟨λh=>h.elim (λh=>?_) id,.inr⟩;obtain⟨y,hy,rfl⟩:=xBc.mp h;obtain⟨r,hr,z,hz,r',er,rfl⟩:=hZ.mp hy;exact aIh (by rw[er]; rfl)
  have hgk:∀ z∈dJ (eO ms S) kts,dM wk (.str z)=true:=λz hz=>hg z (hkS z ((hkn z).mp hz))
  have lk:kts.length<=64:=by
   have:=dO (rs:=kts) (N:=S) λz hz=>hkS z ((S10.mem z).mp hz)
   rw[<- (jA (m:=unl kts []) S10.nd (λz hz=>qA.mpr hz) (dO λz hz=>hz)).length_eq] at this;omega
  refine⟨X,x,D2,dd,dX,rN 0,.ref kl,jQ ms S,kts,eO ms S,wk,rfl,aD,fX hWB (s10B.trans k1),k1 _ _ (s10 _ _ (s9 _ _ c1)),((a1.same (c2.trans s9)).same s10).same k1,.inr ⟨kl,rfl,k1 _ _ e10⟩,⟨by omega,by omega,by omega⟩,hrn,xBn.mpr λy hy=>?_,λz hz=>nG (hgk z hz),hap,hrf,λlM eM kM kvs g H11 sb M11=>⟨rfl,q1' X _ H11 (sOB.trans (λb u e=>sb b u (aF (s10B _ _ e) hX) (k1 _ _ (s10B _ _ e)))) (TB.same (λb u e=>sb b u (aF (s10B _ _ e) hX) (k1 _ _ (s10B _ _ e)))) hkn ⟨dX,lM,eM,kM,kvs,g,M11⟩⟩⟩;obtain⟨z,hz,rfl⟩:=xBc.mp hy;exact hgk z hz
theorem wH {F:List Str->List (List Str)}{p:List Str->Prop}:∀ {n i:Nat}{rs:xLL},(∀ r∈rs,p r)->(∀ r∈gE F n rs i,∀ r'∈F r,p r')->∀ r∈gE F n rs i,p r
 | 0,_,_,h,_=>h
 | n+1,i,rs,h,g=>by
  unfold gE at g ⊢
  by_cases q:i<rs.length/\rs.length<=60
  ·rw[xBe q] at g ⊢;refine wH (λr hr=>?_) g;rcases lZ hr with hr | hr
   ·exact h r hr
   ·have e:rs.getD i []=rs[i]:=by rw[xCk,xAh q.1]; rfl
    exact g _ (uG (jS (by rw[e]; exact xCt q.1))) r hr
  ·rw[xAy q] at g ⊢;exact h
section
variable {ms:List MW}{S:List Str}
theorem nZ (h:(bU ms S).length<=60){z:Str}:z∈cH (rN 0) (jQ ms S) (eO ms S)↔z∈(bU ms S).map (rOf ms S):=by
 constructor
 ·intro hz;obtain⟨r,hr,rfl⟩:=qK h z hz;exact xBc.mpr ⟨r,hr,rfl⟩
 ·intro hz;obtain⟨r,hr,rfl⟩:=xBc.mp hz
  have hp:r=ms.map (·.b)\/∃ r0∈bU ms S,∃ y∈S,wto ms r0 y=some r:=wH (p:=λr=>r=ms.map (·.b)\/∃ r0∈bU ms S,∃ y∈S,wto ms r0 y=some r) (λr hr=>.inl (xBb.mp hr)) (λr0 h0 r' h'=>by
   obtain⟨y,hy,e⟩:=xBz.mp h';exact .inr ⟨r0,h0,y,hy,e⟩) r hr
  rcases hp with rfl | ⟨r0,h0,y,hy,e⟩
  ·rw[qD h];exact xDk _ (xBk ..)
  ·exact xBs _ (xDe.mpr ⟨_,hZ.mpr ⟨r0,h0,y,hy,r,e,rfl⟩,xBi _ (xBb.mpr rfl)⟩)
theorem aCb (h:(bU ms S).length<=60):((bU ms S).map (rOf ms S)).Nodup:=xEf.mpr (xFe (λ{a b} ha hb hne e=>hne (oX h ha hb e)) gO)
theorem zU (h:(bU ms S).length<=60):(jQ ms S).Nodup:=xEf.mpr (xFe (λ{a b} ha hb hne e=>hne (oX h (xCc.mp ha).1 (xCc.mp hb).1 e)) (gO.filter _))
theorem aNn {ts l:List Str}(so:xBr ts=true)(pm:ts.Perm (unl l [])):Srt ts (λz=>z∈l):=⟨so,pm.nodup_iff.mpr (jO _ _ .nil),λz=>pm.mem_iff.trans qA⟩
theorem aTi {ts l:List Str}(so:xBr ts=true)(pm:ts.Perm l)(nd:l.Nodup):Srt ts (λz=>z∈l):=⟨so,pm.nodup_iff.mpr nd,λz=>pm.mem_iff⟩
theorem aRz {ms:List MW}(each:∀ m∈ms,m.kn.length<=100):((ms.map (·.kn)).map List.length).sum<=100*ms.length:=by
 induction ms with
 | nil=>exact xAi _
 | cons y r ih=>
  have h1:=each y (xBk ..);have h2:=ih λmw hm=>each mw (xBi _ hm);simp only[List.map_cons,List.sum_cons,List.length_cons];omega
theorem aNe (ms:List MW):(wkn ms).length=((ms.map (·.kn)).map List.length).sum:=by
 show ((ms.map (·.kn)).flatten).length=_;rw[xGe]
end
theorem aUn {H:Hp}{q e g k:Addr}{b:Str}(h:H q=some (.dK (mpD b e g k))):dQ H q (.str "ends") (some (.ref e)):=by
 have:=dQ.k (k:=Sum.inr "ends") h
 rw[show dC (mpD b e g k) (Sum.inr "ends")=some (.ref e) from rfl] at this
 exact this
theorem aIb {X:Cx}{scope:Scope}{N':List Str}{nown:Nat}(h1:N'.length=nown)(h2:cV scope=[]):gI X scope N' nown []:=⟨h1,λk j e=>(by simp at e),λn hn=>(by rw[h2] at hn; exact nomatch hn),λk x hk e=>(by have:=(xAc.mp e).1; omega)⟩
theorem aRf:∀ k:Nat,k<64->("r" : Str).length+(Str.ofString (toString (k:Int))).length<=100:=by decide +kernel
theorem dQ.tt {H:Hp}{a b:Addr}{kvs:List (List Key×V)}{k:List Key}(e:H a=some (.dT kvs))(eb:H b=some (.tup (k.map kV))):dQ H a (.ref b) (dC kvs k):=.inr ⟨kvs,k,b,.inl e,rfl,eb,rfl⟩
inductive aJd (K:xAd)(C CM:Addr)(vs:List V)(H:Hp)(Q:VK)(E:XK):Prop
 | mk (X D n l x:Addr)(ms:List MW)(ss S kn:List Str)(bs:List Addr)(wk:List (Key×V))(h0_:vs=[.ref X,.ref D,.ref n,.ref l])(h1_:MM CM H X x (rN 0) (jQ ms S) kn (eO ms S))(h2_:∀ z,z∈kn↔z∈wkn ms)(h3_:gX H D ms)(h4_:1<=ms.length/\ms.length<=10)
  (h5_:H n=some (.lst (ss.map V.str)))(h6_:ss.length<=12)(h7_:S.Perm ss)(h8_:H l=some (.lst (bs.map V.ref)))(h9_:gA H bs (bU ms S))(h10_:(bU ms S).length<=60)(h11_:∀ m∈ms,m.rs.all aZ=true)(h12_:WAt C H x wk)(h13_:∀ z∈S,dM wk (.str z)=true)(h14_:∀ z∈wkn ms,z∈S)
  (h15_:∀ m∈ms,m.kn.length<=100)(h17_:∀ z∈ss,z.length<=1000)(h16_:∀ H',aO H H'->Q (.bl true) H')
abbrev NGo:List Str:=["_law_one","_law_maps_here","_law_names","_law_rooms","_law_numbers","_law_k","_law_room","_law_known","_law_ends","_law_deed"]
theorem yY:aQ NGo ["_law_one","_law_maps_here","_law_names","_law_rooms"] (aB vU):=xfs
abbrev aTy:List Str:=["_law_row"]
abbrev aUa:List Str:=["_law_room","_law_maps_here"]
abbrev aRw:List Str:=["_law_spot","_law_row"]
abbrev aTz:List Str:=["_law_room","_law_numbers"]
theorem aOo {f fS fB fR fE fK fT C CM cR cD:Addr}{fd fdS fdB fdR fdE fdK fdT:FuncData}(F:Fun K "_law_one_good" "_law_one_good" vU f fd)(T:Txt K mg)(mZ:mg "zip" = none)(mSe:mg "set" = none)(mSum:mg "sum" = none)(MC:lA K CM)
  (GS:aY P w K mg base CX0 1 fS fdS ["_law_maps_here","_law_room","_law_deed"] (aBo K))(kS:keepIn K (.ref fS)=true)(bS:aW K fdS ["_law_maps_here","_law_room","_law_deed"] [])(mS:mg "_law_step" = some (.ref fS))
  (GB:aY P w K mg base CX0 1 fB fdB ["self"] (sW CM))(bB:aW K fdB ["self"] [])(mB:fV K CM "begin" fB)
  (GR:aY P w K mg base CX0 1 fR fdR ["self"] (jV CM aMe))(bR:aW K fdR ["self"] [])(mR:fV K CM "rooms" fR)
  (GE:aY P w K mg base CX0 1 fE fdE ["self"] (jV CM aQk))(bE:aW K fdE ["self"] [])(mE:fV K CM "ends" fE)
  (GK:aY P w K mg base CX0 1 fK fdK ["self"] (jV CM aDl))(bK:aW K fdK ["self"] [])(mK:fV K CM "knows" fK)
  (GT:aY P w K mg base (CXE P w) 4 fT fdT ["self","room","deed"] (aJa C CM cR cD))(bT:aW K fdT ["self","room","deed"] [])(mT:fV K CM "to" fT) :
  aY P w K mg base CX0 5 f fd ["_law_one","_law_maps_here","_law_names","_law_rooms"] (aJd K C CM):=by
 refine F.ok yY (λvs H Q E h=>?_) (λcdv A outer s H vs Q E hr h=>?_)
 ·obtain⟨X,D,n,l,x,ms,ss,S,kn,bs,wk,rfl,_⟩:=h;rfl
 ·obtain⟨X,D,n,l,x,ms,ss,S,kn,bs,wk,rfl,M,hkn,MA,hl,hn,h12,pm,hb,tp,hle,hN,hW,hg,hkS,hk100,hsh,q⟩:=h;have hr1:cL 1 _:=hr.mono (by decide);have hu:=iI hr;have hu0:=xHz hu
  refine⟨_,aK (bJ (i:=4) yY.nd rfl (xHg rfl) tM)
   (aK (dI PassesOwn.never rfl (iZ rfl T.enum (pac (pv 3) aH)) (eC rfl (aU (aP (i:=5) yY.nd rfl (xAx rfl)) (aU (aP (i:=6) yY.nd rfl (xAx rfl)) dG)))
    (aL (iL hu (pv 4) (pv 6) (aX nY aS (eG pQ (by rfl) T.str Bo.str (pac (pv 5) aH))) rfl)))
   (aK (bJ (i:=7) yY.nd rfl (xAx rfl) (cC (xX rfl) (by rfl) T.sorted Bo.sorted (pac (eG (aMl rfl) (by rfl) mSe Bo.set (pac (cC (aHu rfl) (by rfl) mSum Bo.sum (pac (dW (N':=aTy) (nown:=1) (js:=[]) rfl
     xbs (cF (aB vU) NGo rfl rfl (by decide +kernel))
     ⟨λ_ _ _ _=>aP (i:=0) (show List.Nodup aTy by decide +kernel) rfl (xAx rfl) (.inr rfl),λ_ _ _ _=>dU,λ_ _ _ _=>eB hu (pv 0) aS (λ_ _=>rfl)⟩
     (cS (pv 1))) (pac (cM aH) aH))) aH)) aH)))
   (aK (fZ (i:=8) (N':=aUa) (nown:=1) (js:=[1]) rfl yY.nd rfl rfl rfl
     xbs (cF (aB vU) NGo rfl rfl (by decide +kernel))
     ⟨λ_ _ _ _=>aP (i:=0) (show List.Nodup aUa by decide +kernel) rfl (xAx rfl) (.inr rfl),
      λ_ _ _ _=>jZ (kE (cC (show CallR _ _ (aVk K) from qY rfl) (by rfl) T.all Bo.all (pac (dW (N':=aRw) (nown:=2) (js:=[]) rfl
       xbs (aIb rfl rfl)
       ⟨λ_ _ _ _=>show PG _ _ (uX K 2 (gC (eK 0) (gC (eK 1) uY))) from eC rfl (aU (aP (i:=0) (show List.Nodup aRw by decide +kernel) rfl (xAx rfl) (.inr rfl)) (aU (aP (i:=1) (show List.Nodup aRw by decide +kernel) rfl (xAx rfl) (.inr rfl)) dG)),
        λ_ _ _ _=>dU,λ_ _ _ _=>rY (show OpR _ _ (rIn K false) from qJ) (pv 0) (eB hu (pv 1) aS (λ_ _=>rfl)) (by with_unfolding_all rfl)⟩
       (show PI _ _ _ (aLy K (vI (yK 0) (vI (yK 1) aIq))) from aJy rfl mZ (pac (pv 0) (pac (pv 1) aH)))) aH))),
      λ_ _ _ _=>pv 0⟩
     (cS (pv 3)))
   (aK (dR (rD (cB aKm (dS (pv 0) MC.cl mB GB hr1 bB .nil cA) aS (cO _)) (rD (cB (xJ hu0) (dS (pv 0) MC.cl mR GR hr1 bR .nil cA) (cC (xW rfl) (by rfl) T.sorted Bo.sorted (pac (aKd (pv 4)) aH)) (cO _))
     (qE (cB (xJ hu0) (dS (pv 0) MC.cl mK GK hr1 bK .nil cA) (pv 7) (cO _))))).pt (aL (bO pB)) cG)
   (aK (dR (cB (xJ hu0) (dS (pv 0) MC.cl mE GE hr1 bE .nil cA) (cC kT (by rfl) T.sorted Bo.sorted (pac (dW (N':=aTz) (nown:=1) (js:=[4]) rfl
     xbs (cF (aB vU) NGo rfl rfl (by decide +kernel))
     ⟨λ_ _ _ _=>aP (i:=0) (show List.Nodup aTz by decide +kernel) rfl (xAx rfl) (.inr rfl),λ_ _ _ _=>dU,λ_ _ _ _=>eB hu (pv 1) (pv 0) (λ_ _=>rfl)⟩
     (cS (pv 8))) aH)) (cO _)) (aL (bO pB)) cG)
   (aK (dI PassesOwn.never rfl (cS (pv 3)) (aP (i:=6) yY.nd rfl (xAx rfl))
    (aL (dI PassesOwn.never rfl (cS (pv 2)) (aP (i:=9) yY.nd rfl (xAx rfl))
     (aL (dR (cB aKm (eA (pv 0) MC.cl mT GT hr bT .nil nM (pac (eB hu (pv 4) (pv 6) (λ_ _=>rfl)) (pac (pv 9) aH))) (aKf hu (pv 4) (bV GS hr1 (by rfl) mS kS bS .nil cA (pac (pv 1) (pac (pv 6) (pac (pv 9) aH)))) ⟨by rfl,by rfl,by rfl,by rfl⟩) (cO _)) (aL (bO pB)) cG)))))
   (aL (bO pB)))))))),?_⟩
  intro nm hnm;have s1:aO H (upd H nm (.dT [])):=smu hnm;have e1:(upd H nm (.dT [])) nm=some (.dT (nmK ms S [])):=aD;generalize upd H nm (.dT [])=H1 at s1 e1 ⊢;have hb1:=s1 _ _ hb;have okr:=aAw (ms:=ms) (S:=S) hN;have ndr:(bU ms S).Nodup:=gO
  have eIx:∀ i r,(bU ms S)[i]?=some r->rOf ms S r=rN i:=λi r h=>by
   obtain⟨hi,e⟩:=xAc.mp h;unfold rOf;rw[<- e,xGv ndr]
  have lbs:bs.length=(bU ms S).length:=Paired.length tp;refine⟨_,rfl,l,rfl,⟨_,SqL.of hb1⟩,?_⟩;refine pJ (xs:=bs.map V.ref) (λi Z H'=>∃ x5 x6:Option V,Z=[some (.ref X),some (.ref D),some (.ref n),some (.ref l),some (.ref nm),x5,x6,none,none,none]/\H' nm=some (.dT (nmK ms S ((bU ms S).take i)))/\SameBut nm H1 H') ?_ ?_ ?_ ?_
  ·exact⟨_,_,rfl,e1,λb o _ e=>e⟩
  ·rintro i Z H' _ ⟨x5,x6,rfl,a1,a2⟩;exact SqL.of (a2 _ _ (fO hb1 e1 (λz=>nomatch z)) hb1)
  ·rintro i u Z H' t hv ⟨x5,x6,rfl,a1,a2⟩ ht;rw[xAg] at hv;cases hbi:bs[i]? with
   | none=>rw[hbi] at hv; cases hv
   | some b=>
    rw[hbi] at hv;cases hv;obtain⟨r,hr,hbr⟩:=tp.get hbi;have hi:i<(bU ms S).length:=(xAc.mp hr).1;have hb':=a2 _ _ (fO (s1 _ _ hbr) e1 (λz=>nomatch z)) (s1 _ _ hbr);have k1:aO H' (upd H' t (.tup [.int i,.ref b])):=smu ht;have et:(upd H' t (.tup [.int i,.ref b])) t=some (.tup [.int i,.ref b]):=aD;generalize upd H' t (.tup [.int i,.ref b])=H3 at k1 et ⊢;refine⟨t,_,rfl,SqT.of et,rfl,_,_,rfl,_,_,rfl,rfl,?_⟩;have hln:=aRf i (by omega);refine⟨_,rfl,(i:Int),rfl,qQ i (by omega),_,_,rfl,rfl,jI (xAr hln (by decide)),_,rfl,_,rfl,nm,_,rfl,oI.t (k:=r.map Sum.inr) (k1 _ _ a1) (by rw[gK]; exact k1 _ _ hb') (aR (by unfold nmK; rw[xAa,xAt]; omega)),?_⟩;refine⟨_,_,rfl,?_,λb o n e=>by rw[aG n]; exact k1 _ _ (a2 b o n e)⟩;rw[aD,xH]
    ·rw[xBl,hr];unfold nmK;rw[xAn];show _=some (HO.dT (_++[(r.map Sum.inr,V.str (rOf ms S r))]));rw[eIx i r hr];rfl
    ·rw[tV (zX _),xBj];exact aEs ndr hr
  rintro Z H3 ⟨x5,x6,rfl,a1,a2⟩;rw[xAa,lbs,xBa] at a1;have s3:aO H H3:=λb o e=>a2 b o (aF e hnm) (s1 b o e);have M3:=M.same s3;have MA3:=MA.same s3;have hn3:=s3 _ _ hn;have hb3:=s3 _ _ hb;have tp3:gA H3 bs (bU ms S):=tp.same λ_ _ e=>s3 _ _ e;have hW3:=fX hW s3;clear M MA hn hb tp hW s1 e1 hb1 a2 hnm;obtain⟨qs,q0,q1,q2⟩:=MA3.ex;refine⟨_,rfl,D,rfl,⟨_,SqL.of q0⟩,λD2 hD2=>gH (xs:=qs.map V.ref) (λi Z' H'=>∃ (u:Option V) (ks:List Addr),Z'=[u]/\H' D2=some (.lst (ks.map V.ref))/\ks.length=i/\(∀ (j:Nat) (kk:Addr) (mw:MW),ks[j]?=some kk->ms[j]?=some mw->H3 kk=some (.lst (mw.kn.map V.str)))/\aO H3 H') ?_ ?_ ?_ ?_⟩
  ·exact⟨none,[],rfl,aD,rfl,λj kk mw z=>(nomatch z),smu hD2⟩
  ·rintro i Z' H' _ ⟨u,ks,rfl,a1,b1,b2,a2⟩;exact SqL.of (a2 _ _ q0)
  ·rintro i u Z' H' hv ⟨u0,ks,rfl,a1,b1,b2,a2⟩;rw[xAg] at hv;cases hq:qs[i]? with
   | none=>rw[hq] at hv; cases hv
   | some q'=>
    rw[hq] at hv;cases hv;have hi:i<ms.length:=by rw[<- q1]; exact (xAc.mp hq).1
    have hm':=xAh hi;generalize ms[i]=mw at hm';obtain⟨e,g,kk,kvs,m0,m1,m2,m3,m4,m5,m6⟩:=q2 i q' mw hq hm';refine⟨_,rfl,q',_,rfl,aMd (a2 _ _ m0),_,a1,aR (by rw[xAa]; omega),_,ks++[kk],rfl,by rw[aD,xAn]; rfl,by rw[xAj,b1]; rfl,λj k2 mw2 z1 z2=>?_,λb o' e'=>?_⟩
    ·by_cases hj:j<ks.length
     ·rw[xBf hj] at z1;exact b2 j k2 mw2 z1 z2
     ·have hl':j=ks.length:=by
       have:=(xAc.mp z1).1
       rw[xAj] at this;simp only[List.length_cons,List.length_nil] at this;omega
      subst hl';rw[xBh (xAi _),xDg] at z1;rw[b1,hm'] at z2;cases z1;cases z2;exact m4
    ·rw[aG (aF e' hD2)];exact a2 _ _ e'
  rintro Z' H4 ⟨u,ks,rfl,c1,b1,b2,c2⟩;rw[xAa,q1] at b1
  have sumle:((ms.map (·.kn)).map List.length).sum<=1000:=by
   have:=aRz hk100
   omega
  have fle:(wkn ms).length<=1000:=by rw[aNe]; exact sumle
  have hS12:S.length<=12:=by rw[pm.length_eq]; exact h12
  refine⟨by show 0<=sizeLine; decide,λe0 he0=>⟨D2,e0,ks,ms.map (·.kn),rfl,SqL.of (smu he0 _ _ c1),aD,by rw[xAa,b1],λj b ss' hb hs=>?_,by omega,sumle,λp6 hp6=>?_⟩⟩
  ·rw[xAg] at hs;cases hm':ms[j]? with
   | none=>rw[hm'] at hs; cases hs
   | some mw=>rw[hm'] at hs; cases hs; exact smu he0 _ _ (c2 _ _ (b2 j b mw hb hm'))
  refine⟨p6,wkn ms,rfl,SqL.of aD,fle,λp7 hp7=>⟨p7,_,rfl,aD,xBt (dO hkS) (by omega),λkn9 kns hp8 pm8 so8=>?_⟩⟩;generalize hH13:upd (upd (upd (upd H4 e0 _) p6 _) p7 _) kn9 _=H5;have s5:aO H3 H5:=by rw[<- hH13]; exact c2.trans ((smu he0).trans ((smu hp6).trans ((smu hp7).trans (smu hp8))))
  have e5:H5 kn9=some (.lst (kns.map V.str)):=by rw[<- hH13,aD]
  clear hH13 he0 hp6 hp7 hp8 c1 c2 hD2 b2;have Skn:Srt kns (λz=>z∈wkn ms):=aNn so8 pm8;have knl:kns.length<=12:=by rw[pm8.length_eq]; exact xAr (dO hkS) hS12
  have hb5:=s5 _ _ hb3;have MA5:=MA3.same s5;have tp5:gA H5 bs (bU ms S):=tp3.same λ_ _ e=>s5 _ _ e;refine⟨_,rfl,l,rfl,⟨_,SqL.of hb5⟩,λD3 hD3=>?_⟩;refine gH (xs:=bs.map V.ref) (λi Z' H'=>∃ (v0:Option V) (fs:List Addr),Z'=[v0,some (.ref D)]/\H' D3=some (.lst (fs.map V.ref))/\gA H5 fs (((bU ms S).take i).filter λr=>iX ms r)/\aO H5 H') ?_ ?_ ?_ ?_
  ·exact⟨none,[],rfl,aD,.nil,smu hD3⟩
  ·rintro i Z' H' _ ⟨v0,fs,rfl,c1,c2,c3⟩;exact SqL.of (c3 _ _ hb5)
  ·rintro i u Z' H' hv ⟨v0,fs,rfl,c1,c2,c3⟩;rw[xAg] at hv;cases hbi:bs[i]? with
   | none=>rw[hbi] at hv; cases hv
   | some b=>
    rw[hbi] at hv;cases hv;obtain⟨room,hr,hbr⟩:=tp5.get hbi;have R:=okr room (xAu hr);have hbr':=c3 _ _ hbr;obtain⟨qs,k0,k1,k2⟩:=(MA5.same c3).ex;refine⟨_,rfl,_,rfl,b,D,rfl,⟨_,SqT.of hbr'⟩,⟨_,SqL.of k0⟩,λF2 hF2=>?_⟩;refine xZ (xs:=room.map V.str) (ys:=qs.map V.ref) (λi Z' H6=>∃ v0 v1,Z'=[v0,v1]/\H6 F2=some (.lst ((List.zipWith (λm z=>decide (z∈MW.es m)) (ms.take i) (room.take i)).map V.bl))/\aO H' H6) ?_ ?_ ?_ ?_ ?_
    ·exact⟨none,none,rfl,aD,smu hF2⟩
    ·rw[xAa,xAa,k1,R.len]
    ·rintro i Z' H' _ ⟨v0,v1,rfl,b1,b2⟩;exact⟨SqT.of (b2 _ _ hbr'),SqL.of (b2 _ _ k0)⟩
    ·rintro i v1 v2 Z' H6 tt hv1 hv2 ⟨w0,w1,rfl,b1,b2⟩ htt;rw[xAg] at hv1 hv2;cases hq:qs[i]? with
     | none=>rw[hq] at hv2; cases hv2
     | some q'=>
      cases hzz:room[i]? with
      | none=>rw[hzz] at hv1; cases hv1
      | some z=>
       rw[hq] at hv2;rw[hzz] at hv1;cases hv1;cases hv2;have him:i<ms.length:=by rw[<- k1]; exact (xAc.mp hq).1
       have hm:=xAh him;generalize ms[i]=m at hm;have s4:=b2.trans (smu (o:=.tup [.str z,.ref q']) htt);have b1':=smu (o:=.tup [.str z,.ref q']) htt _ _ b1;have eT:(upd H6 tt (.tup [.str z,.ref q'])) tt=some (.tup [.str z,.ref q']):=aD;generalize upd H6 tt (.tup [.str z,.ref q'])=H7 at s4 b1' eT ⊢;obtain⟨e,g,k,kvs,m0,m1,m2,m3,m4,_,_⟩:=(k2 i q' m hq hm).same s4;refine⟨tt,_,rfl,SqT.of eT,rfl,_,_,rfl,_,_,rfl,rfl,_,rfl,_,rfl,q',_,rfl,aUn m0,e,_,rfl,.inl (SqL.of m1),rfl,by rw[xHj]; exact xBn.mpr λ_ _=>rfl,?_⟩;refine⟨_,b1',aR ?_,_,_,rfl,?_,λb o u=>?_⟩
       ·rw[xAa,xEl,xAt];omega
       ·rw[aD,lB hm hzz,xAn,show (if false=true then !inV (.str z) (m.es.map V.str) else inV (.str z) (m.es.map V.str))=decide (z∈m.es) from xP _ _]
        rfl
       ·rw[aG (aF u hF2)];exact s4 _ _ u
    rintro Z' H6 ⟨v0',v1',rfl,b1,b2⟩;have e3:ms.take (room.map V.str).length=ms:=by rw[xAa,<- R.len,xBa]
    have e4:room.take (room.map V.str).length=room:=by rw[xAa,xBa]
    rw[e3,e4] at b1;refine⟨F2,_,rfl,SqL.of b1,_,rfl,?_⟩
    have ef:((bU ms S).take (i+1)).filter (λr=>iX ms r)=((bU ms S).take i).filter (λr=>iX ms r)++(if iX ms room=true then [room] else []):=by
     rw[xBl,hr,xHw];congr 1;show List.filter _ [room]=_;rw[xFx,xIn]
    have lf:(((bU ms S).take i).filter λr=>iX ms r).length<=60:=xAr (xCw ..) (by rw[xAt]; omega);have fl:fs.length=(((bU ms S).take i).filter λr=>iX ms r).length:=Paired.length c2;cases hw:iX ms room with
    | false=>
     refine fU (λz=>?_) λ_=>⟨_,fs,rfl,b2 _ _ c1,?_,c3.trans b2⟩
     ·exact xBg z (by rw[show List.all _ id=iX ms room from rfl,hw]; simp)
     ·rw[ef,hw]
      simpa using c2
    | true=>
     refine fU (λ_=>⟨_,rfl,_,b2 _ _ c1,aR (by rw[xAa]; omega),_,fs++[b],rfl,by rw[aD,xAn]; rfl,?_,λb o e=>?_⟩) λz=>?_
     ·rw[ef,hw];exact gA.snoc c2 hbr
     ·rw[aG (aF e hD3)];exact b2 _ _ (c3 _ _ e)
     ·exact xBg (show iX ms room=true from hw) z
  rintro Z' H6 ⟨v0,fs,rfl,c1,c2,c3⟩;rw[xAa,lbs,xBa] at c2;have s6:=s5.trans c3;have M6:=M3.same s6;have nm6:=s6 _ _ a1;have e6:=c3 _ _ e5;have MA6:=MA3.same s6;have hn6:=s6 _ _ hn3;have hb6:=s6 _ _ hb3;have tp6:gA H6 bs (bU ms S):=tp3.same λ_ _ e=>s6 _ _ e;have tf6:gA H6 fs ((bU ms S).filter λr=>iX ms r):=c2.same λ_ _ e=>c3 _ _ e;have hW6:=fX hW3 s6;have s36:=s3.trans s6;clear M3 MA3 hn3 hb3 tp3 hW3 s3 s5 e5 a1 c2 c3 tp5 MA5 hb5 s6 q0 q1 q2 hD3;have x1:(nmK ms S (bU ms S)).map (·.2)=((bU ms S).map (rOf ms S)).map V.str:=by unfold nmK; rw[xDx,xDx]; rfl
  have x2:((bU ms S).map (rOf ms S)).length<=60:=by rw[xAa]; exact hle
  obtain⟨dx,_,_,_,_,_,M0⟩:=id M6;refine⟨_,rfl,X,dx,_,rfl,M0.ins,dP _ _ _ _ _ _ (by decide),X,x,_,_,kn,_,rfl,M6,rfl,_,rfl,fU (λy=>xBg y (by decide +kernel)) λ_=>?_⟩;refine⟨_,rfl,X,dx,_,rfl,M0.ins,dP _ _ _ _ _ _ (by decide),X,x,_,_,kn,_,rfl,M6,xBt (dO λz hz=>(nZ hle).mp hz) (by omega),λl1 t1 H7 s7 n7 e7 so7 pm7=>?_⟩;refine⟨_,rfl,nm,_,rfl,s7 _ _ nm6,λv hv=>⟨v,nm,_,_,rfl,aD,smu hv _ _ (s7 _ _ nm6),x1,by omega,λp1 t2 hp1 pm8' so8'=>?_⟩⟩;have et:t1=t2:=(aNn so7 pm7).one (aTi so8' pm8' (aCb hle)) λz=>nZ hle;subst et;generalize hH8:upd (upd H7 v _) p1 _=H8;have k8:aO H7 H8:=by rw[<- hH8]; exact (smu hv).trans (smu hp1)
  have e8:H8 p1=some (.lst (t1.map V.str)):=by rw[<- hH8,aD]
  have s8:=s7.trans k8;refine⟨l1,p1,t1,t1,rfl,rfl,SqL.of (k8 _ _ e7),SqL.of e8,_,rfl,fU (λy=>xBg y (by simp)) λ_=>?_⟩;clear hH8 hv hp1 k8 e7 n7 s7 e8;refine⟨_,rfl,X,dx,_,rfl,s8 _ _ M0.ins,dP _ _ _ _ _ _ (by decide),X,x,_,_,kn,_,rfl,M6.same s8,xBt (dO λz hz=>hkS z ((hkn z).mp hz)) (by omega),λl2 t2 H9 s9 n9 e9 so9 pm9=>?_⟩;have et:t2=kns:=(aNn so9 pm9).one Skn hkn;subst et;have s69:=s8.trans s9;refine⟨_,rfl,l2,kn9,t2,t2,rfl,rfl,SqL.of e9,SqL.of (s69 _ _ e6),_,rfl,fU (λy=>xBg y (by simp)) λ_=>?_⟩;refine⟨_,rfl,X,dx,_,rfl,s69 _ _ M0.ins,dP _ _ _ _ _ _ (by decide),X,x,_,_,kn,_,rfl,M6.same s69,xBt (dO λz hz=>hz) (xBt (qL hle) (by decide)),λl3 t3 H10 s10 n10 e10 so10 pm10=>?_⟩;have sA:=s69.trans s10;have fl:fs.length=((bU ms S).filter λr=>iX ms r).length:=Paired.length tf6;have fl60:fs.length<=60:=by rw[fl]; exact xAr (xCw ..) hle
  refine⟨_,rfl,D3,rfl,⟨_,SqL.of (sA _ _ c1)⟩,λD4 hD4=>?_⟩;refine gH (xs:=fs.map V.ref) (λi Z' H'=>∃ v0:Option V,Z'=[v0,some (.ref nm)]/\H' D4=some (.lst (((((bU ms S).filter λr=>iX ms r).take i).map (rOf ms S)).map V.str))/\aO H10 H') ?_ ?_ ?_ ?_
  ·exact⟨none,rfl,aD,smu hD4⟩
  ·rintro i Z' H' _ ⟨v0,rfl,d1,d2⟩;exact SqL.of (d2 _ _ (sA _ _ c1))
  ·rintro i u Z' H' hv ⟨v0,rfl,d1,d2⟩;rw[xAg] at hv;cases hbi:fs[i]? with
   | none=>rw[hbi] at hv; cases hv
   | some b=>
    rw[hbi] at hv;cases hv;obtain⟨r,hr,hbr⟩:=tf6.get hbi;have g1:=dQ.tt (k:=r.map Sum.inr) (d2 _ _ (sA _ _ nm6)) (b:=b) (by rw[gK]; exact d2 _ _ (sA _ _ hbr));rw[jE (xCc.mp (xAu hr)).1] at g1;refine⟨_,rfl,_,rfl,nm,_,rfl,g1,_,d1,aR (by rw[xAa,xAa,xAt]; omega),_,rfl,?_,λb o e=>?_⟩
    ·rw[aD,xBl,hr,xAn,xAn];rfl
    ·rw[aG (aF e hD4)];exact d2 _ _ e
  rintro Z' H11 ⟨v0,rfl,d1,d2⟩;rw[xAa,fl,xBa] at d1;refine⟨D4,jQ ms S,rfl,SqL.of d1,xBt (qL hle) (by decide),λp4 t4 hp4 pm4 so4=>?_⟩;have et:t3=t4:=(aNn so10 pm10).one (aTi so4 pm4 (zU hle)) λz=>Iff.rfl;subst et;refine⟨l3,p4,t3,t3,rfl,rfl,SqL.of (smu hp4 _ _ (d2 _ _ e10)),SqL.of aD,_,rfl,fU (λy=>xBg y (by simp)) λ_=>?_⟩;have s12:aO H6 (upd H11 p4 (.lst (t3.map V.str))):=(sA.trans d2).trans (smu hp4);generalize upd H11 p4 (.lst (t3.map V.str))=H12 at s12 ⊢;clear d1 d2 hp4 hD4 e10 s10 n10 sA s69 e9 n9 s9 s8 c1 tf6 x1 x2 so4 pm4 so10 pm10;refine⟨_,rfl,l,rfl,⟨_,SqL.of (s12 _ _ hb6)⟩,?_⟩;refine dH (xs:=bs.map V.ref) (λi Z H'=>∃ y6 y9:Option V,Z=[some (.ref X),some (.ref D),some (.ref n),some (.ref l),some (.ref nm),x5,y6,some (.ref kn9),some (.ref D3),y9]/\aO H6 H') ?_ ?_ ?_ ?_
  ·exact⟨_,_,rfl,s12⟩
  ·rintro i Z H' _ ⟨y6,y9,rfl,a2⟩;exact SqL.of (a2 _ _ hb6)
  ·rintro i u Z H' hv ⟨y6,y9,rfl,a2⟩;rw[xAg] at hv;cases hbi:bs[i]? with
   | none=>rw[hbi] at hv; cases hv
   | some b=>
    rw[hbi] at hv;cases hv;obtain⟨r,hr,hbr⟩:=tp6.get hbi;have hrm:=xAu hr;have R:=okr r hrm;refine⟨_,rfl,n,rfl,⟨_,SqL.of (a2 _ _ hn6)⟩,?_⟩;refine dH (xs:=ss.map V.str) (λj Z H'=>∃ y9:Option V,Z=[some (.ref X),some (.ref D),some (.ref n),some (.ref l),some (.ref nm),x5,some (.ref b),some (.ref kn9),some (.ref D3),y9]/\aO H6 H') ?_ ?_ ?_ ?_
    ·exact⟨_,rfl,a2⟩
    ·rintro j Z H' _ ⟨y9,rfl,a2⟩;exact SqL.of (a2 _ _ hn6)
    ·rintro j u Z H' hv ⟨y9,rfl,a2⟩;rw[xAg] at hv;cases hzj:ss[j]? with
     | none=>rw[hzj] at hv; cases hv
     | some z=>
      rw[hzj] at hv;cases hv;have hzs:=xAu hzj;have hzS:=pm.mem_iff.mpr hzs;have g1:=dQ.tt (k:=r.map Sum.inr) (a2 _ _ nm6) (b:=b) (by rw[gK]; exact a2 _ _ hbr);rw[jE hrm] at g1;have good:rL (rN 0) (jQ ms S) (eO ms S) (rOf ms S r):=⟨zF hle hrm,(nZ hle).mpr (xBc.mpr ⟨r,hrm,rfl⟩)⟩;refine⟨_,rfl,X,dx,_,rfl,a2 _ _ M0.ins,dP _ _ _ _ _ _ (by decide),_,rfl,_,rfl,nm,_,rfl,g1,_,rfl,X,x,_,rOf ms S r,.str z,_,kn,_,wk,rfl,M6.same a2,xAr (aJu _ (xQ hle hrm)).2 (by decide),fX hW6 a2,.inl ⟨z,rfl,hsh z hzs⟩,λ_ _ u H13 eu s13=>?_,λ_ bad=>xBg (hg z hzS) (by rw[bad]; simp),λbad=>xBg good bad⟩;cases eu;have sB:=a2.trans s13;rw[aLd hle hrm hzS];refine⟨_,rfl,nm,rfl,?_,_,rfl,_,rfl,_,rfl,D,b,ms,r,z,rfl,MA6.same sB,SqT.of (sB _ _ hbr),R.len,hl.2,?_⟩
      ·exact .inr ⟨_,.inl (sB _ _ nm6)⟩
      cases hw:wto ms r z with
      | none=>
       intro H14 s14;exact .inr ⟨rfl,⟨_,s14 _ _ (sB _ _ nm6)⟩,rfl,_,rfl,gP ⟨_,rfl,sB.trans s14⟩⟩
      | some r'=>
       intro t H14 s14 n14 e14;have g2:=dQ.tt (k:=r'.map Sum.inr) (s14 _ _ (sB _ _ nm6)) (b:=t) (by rw[gK]; exact e14);rw[jE (uI hle hrm hzS hw)] at g2;exact .inl ⟨_,g2,rfl,_,rfl,fU (λy=>xBg y (by simp[oV])) λ_=>⟨_,rfl,sB.trans s14⟩⟩
    ·rintro Z H' ⟨y9,rfl,a2⟩;exact⟨_,_,rfl,a2⟩
  rintro Z H' ⟨y6,y9,rfl,a2⟩;exact q H' (s36.trans a2)
abbrev aQh:Pos:=⟨394,26,394,54⟩
abbrev aQg:Str:="law.<locals>."++"<lambda>"
abbrev ix:Why->Nat
 | .noName=>0
 | .noDeed=>1
 | .twice=>3
 | .tooMany=>4
theorem aSw {K:xAd}{mg:xSO}{ds:Nat->Addr}(W:Wd K mg ds):pY ds (ds 4)=some "TooMany":=xBe rfl
theorem aQo {l:List MR}{ss:List Str}(hR:aId l ss):∀ z∈wkn (l.map MR.mw),z∈ss:=λz hz=>by
 obtain⟨m,hm,hz⟩:=xDe.mp hz;obtain⟨r,hr,rfl⟩:=xBc.mp hm;exact (hR r hr).kn z hz
theorem aRu {l:List MR}{ss:List Str}(hR:aId l ss):∀ m∈l.map MR.mw,m.rs.all aZ=true:=λm hm=>by
 obtain⟨r,hr,rfl⟩:=xBc.mp hm;exact (hR r hr).nm
theorem aLa {H H':Hp}{Pt b:Addr}{o:HO}{ps:Array Value}(t:H Pt=some (.tbl ps))(s:aO (off H Pt) H')(h:H b=some o)(n:o≠.tbl ps):H' b=some o:=s _ _ (lO (λz=>by rw[z,t] at h; exact n (xBp h).symm) h)
theorem aXb {H H':Hp}{D Pt:Addr}{ms:List MW}(t:∃ ps,H Pt=some (.tbl ps))(s:aO (off H Pt) H')(M:gX H D ms):gX H' D ms:=by
 obtain⟨ps,t⟩:=t;obtain⟨qs,h0,h1,h2⟩:=M.ex;refine⟨qs,aLa t s h0 (λz=>nomatch z),h1,λi q m a b=>?_⟩;obtain⟨e,g,k,kvs,m0,m1,m2,m3,m4,m5,m6⟩:=h2 i q m a b;exact⟨e,g,k,kvs,aLa t s m0 (λz=>nomatch z),aLa t s m1 (λz=>nomatch z),aLa t s m2 (λz=>nomatch z),m3,aLa t s m4 (λz=>nomatch z),m5,m6⟩
abbrev KnS (l:List MR):Prop:=∀ m∈l.map MR.mw,m.kn.length<=100
inductive J23 (C P1 Pr:Addr)(Z:St)(H:Hp):Prop
 | mk (x0 x2:Option V)(x p n:Addr)(l:List MR)(ss S:List Str)(wk:List (Key×V))(h0_:Z=[x0,some (.ref n),x2,some (.ref x),some (.ref p),none,none,none,none,none])(h1_:WAt C H x wk)(h2_:PlA H p l)(h3_:1<=l.length/\l.length<=7)(h4_:aId l ss)(h5_:∀ z∈ss,dM wk (.str z)=true)(h6_:H n=some (.lst (ss.map V.str)))(h7_:ss.length<=12)(h8_:S.Perm ss)(h9_:xBr S=true)(h10_:ss.Nodup)
  (h11_:Tab nU nQ Pr H)(h12_:Tab aQh aQg P1 H)(h13_:KnS l)(h14_:∀ z∈ss,z.length<=1000)
theorem scT:aQ NT ["_law_deed"] (aB wY):=xfs
abbrev kX (ns:List Int):List Str:=eP (RW.cellAt ns 0/256) (iA (RW.cellAt ns 0))
abbrev aSi (ns:List Int):List Str:=qV (RW.cellAt ns 0) (kX ns)
abbrev aOd (ns:List Int):List (Int×Nat):=plant (RW.cellAt ns 1) (RW.cellAt ns 2) (RW.cellAt ns 3)
abbrev N23:List Str:=["_law_script","_law_names","_law_free","_law_deeds","_law_plant","_law_maps_here","_law_rooms","_law_turn","_law_one","_law_woven"]
theorem scL:aQ N23 ["_law_script"] (aB kY):=xfs
abbrev ndk:List Str:=["_law_k","_law_script"]
inductive aEd (K:xAd)(P1 Pr:Addr)(vs:List V)(H:Hp)(Q:VK)(E:XK):Prop
 | mk (a:Addr)(ns:List Int)(h0_:vs=[.ref a])(h1_:SqL K H a (ns.map V.int))(h2_:ns.length<=63)(h4_:H P1=some (.tbl #[]))(h5_:H Pr=some (.tbl #[]))(h6_:P1≠Pr)(h7_:∀ H',Q (.bl true) H')
theorem aRr {f fC fD fI fP fMo fMs fWI fRi fMp fCo fMd fOG fDe ft fw C CM CW W c0 P1 Pr:Addr}{fdC fdD fdI fdP fdMo fdMs fdWI fdRi fdMp fdCo fdMd fdOG fdDe fdt fdw:FuncData}{ds:Nat->Addr}{oc kV doc pm ct:Value}{an od:Option Addr}{osl:xAO}
  (lk:K.lookup f=some ⟨oc,od,.func (fnOf "law" "law" (aJ kY) (aI kY) (aB kY) .none kV doc pm an (.ref c0) ct),osl⟩)(hcd:codeIn K (.ref c0) "law" = true)(hhd:codeHdIn K c0 P1=true)(bm:jT mg base)
  (T:Txt K mg)(WC:rU K CW)(MC:lA K CM)(NC:aBb K C)(Wf:Wd K mg ds)(hkw:∀ i∈iK,exmOne K (.ref (ds i)) (.ref W)=some true)(mWd:mg "WardError"=some (.ref W))
  (GC:aY P w K mg base CX0 2 fC fdC ["_law_script","_law_k"] (aJf K))(kC:keepIn K (.ref fC)=true)(bC:aW K fdC ["_law_script","_law_k"] [])(mC:mg "_law_cell_at" = some (.ref fC))
  (GD:aY P w K mg base CX0 2 fD fdD ["_law_cell"] (vR K))(kD:keepIn K (.ref fD)=true)(bD:aW K fdD ["_law_cell"] [])(mD:mg "_law_deeds_by" = some (.ref fD))
  (GI:aY P w K mg base (CXE P w) 4 fI fdI ["self","names","free"] (aJc K C λk=>ds (ix k)))(MI:Mk K C fI)(bI:aW K fdI ["self","names","free"] [])(bI1:aW K fdI ["self","names","free"] [.none])(mDs:mg "Deeds" = some (.ref C))
  (GP:aY P w K mg base CX0 3 fP fdP ["_law_cells","_law_names"] (vN K))(kP:keepIn K (.ref fP)=true)(bP:aW K fdP ["_law_cells","_law_names"] [])(mP:mg "_law_plant_by" = some (.ref fP))
  (GMo:aY P w K mg base CX0 3 fMo fdMo ["_law_plant","_law_cell","_law_names"] (aIy K))(kMo:keepIn K (.ref fMo)=true)(bMo:aW K fdMo ["_law_plant","_law_cell","_law_names"] [])(mMo:mg "_law_more" = some (.ref fMo))
  (GMs:aY P w K mg base CX0 6 fMs fdMs ["_law_deeds","_law_plant"] (sU C CM))(kMs:keepIn K (.ref fMs)=true)(bMs:aW K fdMs ["_law_deeds","_law_plant"] [])(mMs:mg "_law_machines" = some (.ref fMs))
  (GWI:aY P w K mg base (CXE P w) 3 fWI fdWI ["self","machines"] (wS CM CW (ds 4)))(WMk:Mk K CW fWI)(bWI:aW K fdWI ["self","machines"] [])(mWv:mg "Woven" = some (.ref CW))
  (GRi:aY P w K mg base CX0 1 fRi fdRi ["_law_many"] aIx)(kRi:keepIn K (.ref fRi)=true)(bRi:aW K fdRi ["_law_many"] [])(mRi:mg "_law_ring" = some (.ref fRi))
  (GMp:aY P w K mg base CX0 1 fMp fdMp ["_law_plant"] aIz)(kMp:keepIn K (.ref fMp)=true)(bMp:aW K fdMp ["_law_plant"] [])(mMp:mg "_law_maps" = some (.ref fMp))
  (GCo:aY P w K mg base CX0 2 fCo fdCo ["_law_maps_here","_law_names","_law_most"] (aJe K))(kCo:keepIn K (.ref fCo)=true)(bCo:aW K fdCo ["_law_maps_here","_law_names","_law_most"] [])(mCo:mg "_law_come" = some (.ref fCo))
  (GMd:aY P w K mg base (CXE P w) 11 fMd fdMd ["woven"] (aBp C CM CW (ds 4) Pr))(kMd:keepIn K (.ref fMd)=true)(bMd:aW K fdMd ["woven"] [])(mMd:mg "made_one" = some (.ref fMd))
  (GOG:aY P w K mg base CX0 5 fOG fdOG ["_law_one","_law_maps_here","_law_names","_law_rooms"] (aJd K C CM))(kOG:keepIn K (.ref fOG)=true)(bOG:aW K fdOG ["_law_one","_law_maps_here","_law_names","_law_rooms"] [])(mOG:mg "_law_one_good" = some (.ref fOG))
  (GDe:aY P w K mg base CX0 1 fDe fdDe ["self"] (sV CM))(bDe:aW K fdDe ["self"] [])(mDe:fV K CM "deeds" fDe)
  (FT:Fun K "_law_tried" "_law_tried" wY ft fdt)(bT:aW K fdt ["_law_deed"] [])(mT:mg "_law_tried" = some (.ref ft))
  (GW:aBc P w K mg base 1 fw fdw ["_law_e"] (aBn (pY ds)))(kW:keepIn K (.ref fw)=true)(bW:aW K fdw ["_law_e"] [])(mW:mg "_law_word" = some (.ref fw)) :
  aY P w K mg base CX0 15 f (fnOf "law" "law" (aJ kY) (aI kY) (aB kY) .none kV doc pm an (.ref c0) ct) ["_law_script"] (aEd K P1 Pr):=by
 refine aAl lk hcd scL (λvs H Q E h=>?_) (λA outer s H vs Q E hr h=>?_)
 ·obtain⟨a,ns,rfl,_⟩:=h;rfl
 ·obtain⟨a,ns,rfl,hS,hlen,hP1,hPr,ne3,k⟩:=h
  have TR:aFj (iC CX0 P w K mg base N23 "law" (aB kY) f (.ref c0) A outer s H E).nox wY ft fdt W fw fdw (pY ds):=⟨FT,scT,⟨_,_,_,_,_,_,_,_,_,_,_,_,_,rfl⟩,bT,mT,mWd,mW,kW,bW,GW,rfl,rfl,rfl,rfl,λC x h=>by
   obtain⟨i,hi,rfl,_⟩:=vB h;exact hkw i hi⟩
  have hr1:cL 1 _:=hr.mono (by decide);have hr2:cL 2 _:=hr.mono (by decide);have hr3:cL 3 _:=hr.mono (by decide);have hr4:cL 4 _:=hr.mono (by decide);have hr5:cL 5 _:=hr.mono (by decide);have hr6:cL 6 _:=hr.mono (by decide);have hr11:cL 11 _:=hr.mono (by decide);have hu:=iI hr
  suffices main:∃ t,PSs (iC CX0 P w K mg base N23 "law" (aB kY) f (.ref c0) A outer s H E).nox (aI kY) t/\t { nx:=λ_ H'=>Q .non H',rt:=Q } (start N23 [.ref a]) H by
   obtain⟨t,h1,h2⟩:=main;exact⟨t,h1.nox,h2⟩
  refine⟨_,aK (aRh (bV GD hr2 rfl mD kD bD .nil cA (pac (bV GC hr2 rfl mC kC bC .nil cA (pac (pv 0) (pac aN aH))) aH)) (eC rfl (aU (aP (i:=1) scL.nd rfl (xAx rfl)) (aU (aP (i:=2) scL.nd rfl (xAx rfl)) dG))))
   (aK (bJ (i:=3) scL.nd rfl (xAx rfl) (pA MI GI hr5 rfl mDs bI .nil nM (pac (pv 1) (pac (pv 2) aH))))
   (aK (bJ (i:=4) scL.nd rfl (xAx rfl) (bV GP hr3 rfl mP kP bP .nil cA (pac (dW (N':=ndk) (nown:=1) (js:=[0]) rfl
     xbs (cF (aB kY) N23 rfl rfl (by decide +kernel))
     ⟨λ_ _ _ _=>aP (i:=0) (show List.Nodup ndk by decide +kernel) rfl (xAx rfl) (.inr rfl),λ_ _ _ _=>dU,λ_ _ _ _=>bV GC hr2 rfl mC kC bC .nil cA (pac (pv 1) (pac (pv 0) aH))⟩
     (aGh rfl T.range (pac aN (pac aN aH)))) (pac (pv 1) aH))))
   (aK (bJ (i:=4) scL.nd rfl (xAx rfl) (bV GMo hr3 rfl mMo kMo bMo .nil cA (pac (pv 4) (pac (bV GC hr2 rfl mC kC bC .nil cA (pac (pv 0) (pac aN aH))) (pac (pv 1) aH)))))
   (dZ (J23 C P1 Pr) (dR (cB pC (aX dD (bV GC hr2 rfl mC kC bC .nil cA (pac (pv 0) (pac aN aH))) aN) aN (cO _))
     (aK (bJ (i:=1) scL.nd rfl (xAx rfl) (cM (pac aS (pac aS aH))))
     (aK (bJ (i:=3) scL.nd rfl (xAx rfl) (pA (dvs:=[.non]) MI GI hr5 rfl mDs bI1 (.cons rfl .nil) nM (pac (pv 1) aH)))
     (aL (bJ (i:=4) scL.nd rfl (xAx rfl) (bV GRi hr1 rfl mRi kRi bRi .nil cA (pac (aX dY aN (aX dD (aX fJ (bV GC hr2 rfl mC kC bC .nil cA (pac (pv 0) (pac aN aH))) aN) aN)) aH)))))) cG)
   (aK (bJ (i:=5) scL.nd rfl (xAx rfl) (bV GMp hr1 rfl mMp kMp bMp .nil cA (pac (pv 4) aH)))
   (aK (bJ (i:=9) scL.nd rfl (xHg rfl) (pA WMk GWI hr4 rfl mWv bWI .nil nM (pac (bV GMs hr6 rfl mMs kMs bMs .nil cA (pac (pv 3) (pac (pv 4) aH))) aH)))
   (aK (bJ (i:=6) scL.nd rfl (xAx rfl) (bV GCo hr2 rfl mCo kCo bCo .nil cA (pac (pv 5) (pac (pv 1) (pac aN aH)))))
   (aK (dR (cB rE (cC cZ (by rfl) T.len Bo.len (pac (pv 6) aH)) aN (cO _)) (aL (bO (rY pC (aGi (k:=11) (P:=P1) (NL:=["_law_woven"]) (js:=[9]) (te:=λEw=>aIt (aBp C CM CW (ds 4) Pr) [] Ew (vI (yK 0) aIq)) TR (λ_=>rfl) rfl hr rfl rfl hhd bm ⟨rfl,rfl,rfl,by decide +kernel,by decide +kernel⟩
      (cF (aB kY) N23 rfl rfl (by decide +kernel)) rfl (λ_ _ _ _=>rfl)
      (λEw cdv A outer s H pn E f c' s' H' hr=>bV (E:=Ew) GMd hr rfl mMd kMd bMd .nil (aPk.passes λ_ _ _ z=>z) (pac (pv 0) aH))) aS (cO _)))) cG)
   (aK (dI PassesOwn.never rfl (gN rfl T.range (pac aN aH)) (aP (i:=7) scL.nd rfl (xAx rfl))
    (aK (bJ (i:=8) scL.nd rfl (xAx rfl) (bV GMd hr11 rfl mMd kMd bMd .nil nM (pac (pv 9) aH)))
    (aL (dR (rD (cB (aKl hu) (dS (pv 8) MC.cl mDe GDe hr1 bDe .nil cA) (pv 3) (cO _)) (qE (kG (kE (bV GOG hr5 (by rfl) mOG kOG bOG .nil cA (pac (pv 8) (pac (pv 5) (pac (pv 1) (pac (pv 6) aH))))))))).pt (aL (bO pB)) cG))))
   (aL (bO pB))))))))))),?_⟩
  have h12:(kX ns).length<=12:=by show (eP _ _).length<=12; unfold eP; rw[xAa,xBv]; exact nF _
  have hS12:∀ z∈kX ns,z∈jW:=λz hz=>aAa hz;have hnm:∀ z∈kX ns,aZ z=true:=λz hz=>aBq z (hS12 z hz);have hnd:(kX ns).Nodup:=uV _ (nF _);have hF:∀ z∈aSi ns,z∈kX ns:=λz hz=>aDh hz;have hFl:(aSi ns).length<=12:=xAr (aDi _ _) h12;have sh:rQ (kX ns):=λz hz=>xAr (lP (hnm z hz)) (by decide);refine⟨_,rfl,a,ns,0,rfl,hS,RW.cellAt ns 0,rfl,λt l m H1 s1 ht hl hm=>⟨t,_,rfl,SqT.of ht,rfl,_,_,rfl,_,_,rfl,rfl,?_⟩⟩;refine⟨_,rfl,_,rfl,λx dx hx hdx _=>?_⟩;have k1:aO H1 (upd (upd H1 dx (.own x)) x (.ins C dx [])):=λb o e=>by rw[aG (aF e hx),aG (aF e hdx)]; exact e
  refine⟨x,l,.ref m,dx,kX ns,aSi ns,rfl,aD,SqL.of (k1 _ _ hl),.inr ⟨m,rfl,SqL.of (k1 _ _ hm)⟩,sh,λz hz=>sh z (hF z hz),by omega,λH2 sb=>?_⟩;rw[aAt h12 hnm hnd hF];intro dw df o S e1 e2 e3 pm so;have s2:aO H1 H2:=λb u e=>sb b u (aF e hx) (k1 b u e);have W2:WAt C H2 x (wts S 1 []):=⟨dx,_,dw,o,e1,aTx _ _,by rfl,e2⟩;have hS2:=(s1.trans s2).seq hS;have hl2:=s2 _ _ hl;have s02:=s1.trans s2;refine⟨rfl,?_⟩;clear hx hdx k1 sb e1 e2 e3;refine⟨1,4,rfl,⟨by decide,by decide,by decide,by decide⟩,λD hD=>iP (n:=3) (λi Z' H'=>∃ v,Z'=[v,some (.ref a)]/\H' D=some (.lst (([RW.cellAt ns 1,RW.cellAt ns 2,RW.cellAt ns 3].take i).map V.int))/\aO H2 H') ?_ ?_ ?_⟩
  ·exact⟨none,rfl,aD,smu hD⟩
  ·rintro i Z' H' hi ⟨v,rfl,h1,h2⟩;refine⟨_,rfl,_,rfl,a,ns,1+i,by rw[Int.natCast_add]; rfl,h2.seq hS2,_,h1,aR (by rw[xAa,xAt]; omega),_,rfl,?_,λb o' e=>?_⟩
   ·rw[aD]
    match i,hi with
    | 0,_=>rfl
    | 1,_=>rfl
    | 2,_=>rfl
   ·rw[aG (aF e hD)];exact h2 _ _ e
  rintro Z' H3 ⟨v,rfl,h3,s3⟩;refine⟨_,rfl,D,l,RW.cellAt ns 1,RW.cellAt ns 2,RW.cellAt ns 3,kX ns,rfl,SqL.of h3,SqL.of (s3 _ _ hl2),h12,λp H4 s4 PA=>?_⟩;have s24:=s3.trans s4;have hgood:=aFa pm hnm
  have pln:1<=(aOd ns).length/\(aOd ns).length<=3:=by
   show 1<=((vV _ _ _).take _).length/\((vV _ _ _).take _).length<=3
   have:=aAh (RW.cellAt ns 1)
   rw[xAt];show 1<=min _ 3/\min _ 3<=3;omega
  have plf:aMy (aOd ns):=λy hy=>aPu _ _ _ y (List.mem_of_mem_take hy);refine⟨_,rfl,_,rfl,a,ns,5,rfl,s24.seq hS2,_,rfl,p,l,RW.cellAt ns 5,aOd ns,kX ns,rfl,PA,SqL.of (s24 _ _ hl2),h12,pln,plf,λpl L H5 s5 n5 PA5 hL hF5=>?_⟩;have hR0:aMt L (kX ns):=λy hy=>⟨aTr (hF5 y hy).1 (hF5 y hy).2 h12 hnd,(hF5 y hy).2⟩;have hR:=aTq hR0;have PL5:=aRi PA5;have lL:1<=(L.map (vW (kX ns))).length/\(L.map (vW (kX ns))).length<=7:=by rw[xAa]; exact hL
  have hKn:KnS (L.map (vW (kX ns))):=λm hm=>by
   obtain⟨r,hr,rfl⟩:=xBc.mp hm;obtain⟨y,hy,rfl⟩:=xBc.mp hr
   have:=(hR0 y hy).1.sm
   show (dJ (dB y.1 (kX ns) y.2) (jK y.1 (kX ns))).length<=100;unfold dJ;rw[xAj,xAa];omega
  generalize L.map (vW (kX ns))=l5 at hR PL5 lL hKn;have s25:=s24.trans s5;have W5:=fX W2 s25;have hS5:=s25.seq hS2;have hl5:=s25 _ _ hl2;have s05:=s02.trans s25;have TA5:Tab aQh aQg P1 H5:=.inl (s05 _ _ hP1);have TR5:Tab nU nQ Pr H5:=.inl (s05 _ _ hPr);clear hD h3 s3 s4 hS2 hl2 W2 s24 s2 PA s5 s25 PA5 hF5 hL hR0 s02 s05;refine⟨⟨_,rfl,a,ns,4,rfl,hS5,_,_,rfl,rfl,(by show (0:Int)<4; decide),rfl,_,rfl,fU (λ_=>?_) (λ_=>?_)⟩,?_⟩
  ·refine⟨by show 2<=sizeLine; decide,λl19 hl19=>?_⟩;have s19:aO H5 (upd H5 l19 (.lst [.str "go",.str "aside"])):=smu hl19;have e19:(upd H5 l19 (.lst [.str "go",.str "aside"])) l19=some (.lst (jG.map V.str)):=aD;generalize upd H5 l19 (.lst [.str "go",.str "aside"])=H19 at s19 e19 ⊢;refine⟨_,rfl,λx20 dx20 hx20 hdx20 _=>?_⟩;have k1:aO H19 (upd (upd H19 dx20 (.own x20)) x20 (.ins C dx20 [])):=λb o e=>by rw[aG (aF e hx20),aG (aF e hdx20)]; exact e
   have gn:∀ z∈jG,aZ z=true:=by decide +kernel
   have gs:∀ z∈jG,z.length<=1000:=λz hz=>xAr (lP (gn z hz)) (by decide);refine⟨x20,l19,.non,dx20,jG,[],rfl,aD,SqL.of (k1 _ _ e19),.inl ⟨rfl,rfl⟩,gs,λz hz=>(nomatch hz),xCa _,λH20 sb=>?_⟩;rw[aAt (ss:=jG) (fs:=[]) (by decide) gn (by decide +kernel) (λz hz=>(nomatch hz))];intro dw2 df2 o2 S2 e1 e2 e3 pm2 so2;have s20:aO H19 H20:=λb u e=>sb b u (aF e hx20) (k1 b u e);have W20:WAt C H20 x20 (wts S2 1 []):=⟨dx20,_,dw2,o2,e1,aTx _ _,by rfl,e2⟩;refine⟨rfl,?_⟩
   obtain⟨n,hn,hRi⟩:∃ n:Nat,(56+RW.cellAt ns 4/4%5:Int)=n/\aUv n:=by
    have h:=cK (RW.cellAt ns 4/4) (m:=5) (by decide);exact⟨(56+RW.cellAt ns 4/4%5:Int).toNat,by omega,by omega,by omega⟩
   have s1820:=s19.trans s20;refine⟨_,rfl,a,ns,4,rfl,s1820.seq hS5,_,_,rfl,rfl,⟨by decide,by decide⟩,_,_,rfl,rfl,(by show (0:Int)<5; decide),_,_,rfl,rfl,n,by rw[hn]; rfl,⟨by have:=hRi.1; omega,hRi.2⟩,λpl22 H22 s22 n22 PL22=>?_⟩;have s1822:=s1820.trans s22
   exact⟨_,_,x20,pl22,l19,[gJ n,iV],jG,S2,wts S2 1 [],rfl,fX W20 s22,PL22,⟨by show 1<=2; decide,by show 2<=7; decide⟩,λr hr=>by
    rcases xAo.mp hr with rfl | hr
    ·exact aNt hRi
    ·rw[xBb.mp hr]; exact aMn,aFa pm2 gn,(s20.trans s22) _ _ e19,by decide,pm2,so2,by decide +kernel,TR5.same s1822,TA5.same s1822,λm hm=>by
    rcases xAo.mp hm with rfl | hm
    ·have:=hRi.2
     simp[MR.mw,dJ,gJ,vX];omega
    ·rw[xBb.mp hm]; decide +kernel,gs⟩
  ·exact⟨_,_,x,pl,l,l5,kX ns,S,wts S 1 [],rfl,W5,PL5,lL,hR,hgood,hl5,h12,pm,so,hnd,TR5,TA5,hKn,sh⟩
  ·rintro Z HJ ⟨y0,y2,xj,pj,nj,lj,sj,Sj,wj,rfl,a1,a2,a3,a4,a5,a6,a7,a8,a9,a10,a11,a12,a13,a14⟩;clear hR hgood hl5 h12 pm so hnd TR5 TA5 hKn sh W5 PL5 lL;refine⟨_,rfl,pj,lj,sj,rfl,a2,by omega,a4,λmp H6 s6 n6 MA6=>?_⟩;refine⟨_,rfl,_,rfl,xj,pj,lj,sj,wj,rfl,fX a1 s6,a2.same s6,by omega,a4,a5,λD H7 s7 n7 MS7=>?_⟩;have hwk:=aQo a4;have hN:=aRu a4;have msl:(lj.map MR.mw).length=lj.length:=xAa ..;intro v dv hv hdv _;have k1:aO H7 (upd (upd H7 dv (.own v)) v (.ins CW dv [])):=λb o' e=>by rw[aG (aF e hv),aG (aF e hdv)]; exact e
   refine .mk v dv xj D (lj.map MR.mw) sj rfl aD (MS7.same k1) ⟨by omega,by omega⟩ (λmw hm z hz=>hwk z (xDe.mpr ⟨mw,hm,hz⟩)) (by omega) λH8 sb W8 _=>⟨rfl,?_⟩;have s68:aO H6 H8:=λb u e=>sb b u (aF (s7 b u e) hv) (k1 b u (s7 b u e));have sJ8:=s6.trans s68;clear k1 sb hv hdv MS7 n7 s7;refine⟨_,rfl,_,rfl,mp,nj,lj.map MR.mw,sj,Sj,rfl,MA6.same s68,sJ8 _ _ a6,by omega,by omega,a8,a9,λdu bs H9 s9 n9 e9 tp9 l9=>?_⟩;have sm:=sJ8.trans s9;have W9:=W8.same s9;have hW9:=fX a1 sm;have MA9:=MA6.same (s68.trans s9);have hn9:=sm _ _ a6;have TR9:=a11.same sm;have TA9:=a12.same sm;clear W8 MA6 s6 n6 s68 sJ8 s9 n9 a1 a2 a6 a11 a12 sm;have hKj:∀ m∈lj.map MR.mw,m.kn.length<=100:=a13;generalize lj.map MR.mw=ms at *;have hkS:∀ z∈wkn ms,z∈Sj:=λz hz=>a8.mem_iff.mpr (hwk z hz);have hgS:∀ z∈Sj,dM wj (.str z)=true:=λz hz=>a5 z (a8.mem_iff.mp hz);have ndS:Sj.Nodup:=a8.nodup_iff.mpr a10;have S12:Sj.length<=12:=by rw[a8.length_eq]; exact a7
   have msl':1<=ms.length/\ms.length<=100:=by omega
   have lbs:bs.length=(bU ms Sj).length:=Paired.length tp9;refine⟨_,rfl,du,_,rfl,.inl (SqL.of e9),_,_,rfl,rfl,_,rfl,fU (λhgt=>?_) (λhle=>?_)⟩
   ·have hgt':60<(bU ms Sj).length:=by have:=xAp hgt; rw[xAa] at this; omega
    refine TA9.tried λH10 s10 TA10=>?_;have nt:=aEq TA9.tb s10;have TR10:=TR9.others (Ne.symm ne3) TA9.tb s10;have W10:=ntV nt W9;refine⟨_,rfl,v,xj,ms,Sj,wj,rfl,W10,msl',hN,ntW nt hW9,hkS,S12,hgS,a9,ndS,TR10,λh=>xBg h (by omega),λ_ H11 s11 TR11=>⟨ds 4,"TooMany",rfl,aSw Wf,λH12 s12=>⟨rfl,?_⟩⟩⟩;rw[xAv rfl];exact k H12
   ·have hle':(bU ms Sj).length<=60:=xIh λz=>hle (xAv (by rw[xAa]; omega));refine⟨2,rfl,by decide,by decide,?_⟩;refine qW (n:=2) (λi Z H'=>∃ y7 y8:Option V,Z=[y0,some (.ref nj),y2,some (.ref xj),some (.ref pj),some (.ref mp),some (.ref du),y7,y8,some (.ref v)]/\Wv CM CW H' v xj ms/\WAt C H' xj wj/\gX H' mp ms/\H' nj=some (.lst (sj.map V.str))/\H' du=some (.lst (bs.map V.ref))/\gA H' bs (bU ms Sj)/\Tab nU nQ Pr H') ?_ ?_ ?_
    ·exact⟨_,_,rfl,W9,hW9,MA9,hn9,e9,tp9,TR9⟩
    ·rintro i Z H' hi ⟨y7,y8,rfl,b1,b2,b3,b4,b5,b6,b7⟩;refine⟨_,rfl,v,xj,ms,Sj,wj,rfl,b1,msl',hN,b2,hkS,S12,hgS,a9,ndS,b7,λ_ X kn H12 s12 TR12 hkn M12=>?_,λh=>xBg h (by omega)⟩;have nt:=aEq b7.tb s12;have c2:=ntW nt b2;have c3:=aXb b7.tb s12 b3;have c4:=nt _ _ b4 trivial;have c5:=nt _ _ b5 trivial;have c6:=ntT nt b6;obtain⟨dx,_,_,_,_,_,M0⟩:=id M12;obtain⟨wx,wf,ww,wo,hw0,_⟩:=id c2;refine⟨_,rfl,X,dx,_,rfl,M0.ins,dP _ _ _ _ _ _ (by decide),X,xj,_,_,kn,_,rfl,M12,_,rfl,xj,C,wx,_,rfl,rfl,hw0,NC,_,rfl,gP ?_⟩;refine⟨_,rfl,_,rfl,_,rfl,_,rfl,X,mp,nj,du,xj,ms,sj,Sj,kn,bs,wj,rfl,M12,hkn,c3,⟨by omega,by omega⟩,c4,a7,a8,c5,c6,hle',hN,c2,hgS,hkS,hKj,a14,λH13 s13=>⟨_,rfl,gP ?_⟩⟩;exact⟨_,_,rfl,(ntV nt b1).same s13,fX c2 s13,c3.same s13,s13 _ _ c4,s13 _ _ c5,c6.same λ_ _ e=>s13 _ _ e,TR12.same s13⟩
    ·rintro Z H' _;exact k H'
end
end K23
namespace K23
open PySem L2 Ky PySem.W
theorem aXd {α:Type}{p:List α->Prop}(h:∀ a b c d,p [a,b,c,d]):∀ us:List α,us.length=4->p us
 | [a,b,c,d],_=>h a b c d
theorem aXc {α:Type}{p:List α->Prop}(h:∀ a b c d e f,p [a,b,c,d,e,f]):∀ us:List α,us.length=6->p us
 | [a,b,c,d,e,f],_=>h a b c d e f
def aXh (K:xAd)(ds:List Addr):Bool:=iK.all λi=>(List.range 14).all λj=>kitOne K (.ref (ds.getD i 0)) (.ref (ds.getD j 0))==some (decide (i=j))
def veB (K:xAd)(ds:List Addr):Bool:=iK.all λi=>kitOne K (.ref (ds.getD i 0)) (.type "ValueError")==some true
def exB (K:xAd)(ds:List Addr)(W:Addr):Bool:=iK.all λi=>exmOne K (.ref (ds.getD i 0)) (.ref W)==some true
def gQ (K:xAd)(x:Str)(st:Stmt)(f:Addr)(fd:FuncData):Prop:=nsIn K mainGlobals x=some (some (.ref f))/\Fun K x x st f fd
def jM (K:xAd)(C:Addr)(x q:Str)(st:Stmt)(f:Addr)(fd:FuncData):Prop:=findIn K (.ref C) x=some (some (.ref f))/\Fun K x q st f fd/\isFn K (.ref f)=true
theorem jM.m {K:xAd}{C:Addr}{x q:Str}{st:Stmt}{f:Addr}{fd:FuncData}(h:jM K C x q st f fd):fV K C x f:=⟨h.1,h.2.2,h.2.1.2⟩
theorem bn {K:xAd}{x q:Str}{st:Stmt}{f:Addr}{fd:FuncData}{ps:List Str}(F:Fun K x q st f fd)
  (h:∀ (kV doc pm:Value) (an:Option Addr) (cdv ct:Value) (us:List Value),us.length=ps.length->bindArgs (fnOf x q (aJ st) (aI st) (aB st) .none kV doc pm an cdv ct) ⟨us,[]⟩=pure (ps.zip us):=by
   intro _ _ _ _ _ _
   first
    | exact aXe (λ_=>rfl)
    | exact aUi (λ_ _=>rfl)
    | exact aUh (λ_ _ _=>rfl)
    | exact aXd (λ_ _ _ _=>rfl)):aW K fd ps []:=F.binds h
theorem all_mk {l:OpenLaw}{w:World}{K:xAd}{h:Heap}{mg:xSO}{fa f1 f2 f3 f4 f5 f6 f7 f8 f9 f10 f11 f12 f13 f14 f15 f16 f17 f18 f19 f20 f21 f22 f23 f24 f25 f26 f27 f28 f29 f30 f31 fm0 fm1 fM0 fM1 fM2 fM3 fM4 fM5 fM6 fM7 fM8 fV0 fV1 fV2 fV3 fV4 fV5 fV6 fV7 fV8 fMI fI C CM CW W c0 cR P1 Pr Td Te d0 d1 d2 d3 d4 d5 d6 d7 d8 d9 d10 d11 d12 d13:Addr}(X:K.In h)(G:h.Ns mainGlobals mg)(hfa:mg "law"=some (.ref fa))
  {fd1 fd2 fd3 fd4 fd5 fd6 fd7 fd8 fd9 fd10 fd11 fd12 fd13 fd14 fd15 fd16 fd17 fd18 fd19 fd20 fd21 fd22 fd23 fd24 fd25 fd26 fd27 fd28 fd29 fd30 fdm0 fdm1 fdM0 fdM1 fdM2 fdM3 fdM4 fdM5 fdM6 fdM7 fdM8 fdV0 fdV1 fdV2 fdV3 fdV4 fdV5 fdV6 fdV8:FuncData}{oc31 kV31 dc31 pm31 ct31:Value}{od31 an31:Option Addr}{sl31:xAO}{ocV7 kVV7 dcV7 pmV7 ctV7:Value}{odV7 anV7:Option Addr}{slV7:xAO}{ocMI kVMI dcMI pmMI ctMI cdMI:Value}{odMI anMI:Option Addr}{slMI:xAO}{ocE:Value}{odE:Option Addr}{slE:xAO}{nE:Nat}{ocI kVI dcI pmI ctI cdI:Value}{odI anI:Option Addr}{slI:xAO}{ocT:Value}{odT:Option Addr}{slT:xAO}{nT:Nat}{t0 t1 t2 t3 t4 t5:Tok}
  (a1:gQ K "_law_mixed" tE f1 fd1)
  (a2:gQ K "_law_cell_at" aJp f2 fd2)
  (a3:gQ K "is_name" oP f3 fd3)
  (a4:gQ K "refuse_names" xA f4 fd4)
  (a5:gQ K "weights_of" sZ f5 fd5)
  (a6:gQ K "marks_of" aBu f6 fd6)
  (a7:gQ K "_law_names_by" lJ f7 fd7)
  (a8:gQ K "_law_deeds_by" oR f8 fd8)
  (a9:gQ K "_law_word" aJm f9 fd9)
  (a10:gQ K "_law_tried" wY f10 fd10)
  (a11:gQ K "named_rooms" aBt f11 fd11)
  (a12:gQ K "refuse_rooms" qC f12 fd12)
  (a13:gQ K "leads_of" aBv f13 fd13)
  (a14:gQ K "_law_rooms_by" oN f14 fd14)
  (a15:gQ K "_law_machine_by" hJ f15 fd15)
  (a16:gQ K "_law_plant_by" oO f16 fd16)
  (a17:gQ K "_law_more" aJo f17 fd17)
  (a18:gQ K "_law_machines" mY f18 fd18)
  (a19:gQ K "_law_maps" aEh f19 fd19)
  (a20:gQ K "_law_step" aJn f20 fd20)
  (a21:gQ K "_law_come" aEi f21 fd21)
  (a22:gQ K "_law_ring" yZ f22 fd22)
  (a23:gQ K "begin_of" oT f23 fd23)
  (a24:gQ K "far_of" xB f24 fd24)
  (a25:gQ K "rows_to" wZ f25 fd25)
  (a26:gQ K "come_to" xC f26 fd26)
  (a27:gQ K "known_of" tF f27 fd27)
  (a28:gQ K "made_one" oQ f28 fd28)
  (a29:gQ K "all_at_ends" oU f29 fd29)
  (a30:gQ K "_law_one_good" vU f30 fd30)
  (a31:nsIn K mainGlobals "law"=some (some (.ref f31)))
  (l31:K.lookup f31=some ⟨oc31,od31,.func (fnOf "law" "law" (aJ kY) (aI kY) (aB kY) .none kV31 dc31 pm31 an31 (.ref c0) ct31),sl31⟩)
  (c31:codeIn K (.ref c0) "law"=true)
  (k31:keepIn K (.ref f31)=true)
  (aC:nsIn K mainGlobals "Deeds"=some (some (.ref C)))
  (qm0:jM K C "has" "Deeds.has" aNr fm0 fdm0)
  (qm1:jM K C "require" "Deeds.require" tD fm1 fdm1)
  (aM:nsIn K mainGlobals "Machine"=some (some (.ref CM)))
  (qM0:jM K CM "deeds" "Machine.deeds" aCz fM0 fdM0)
  (qM1:jM K CM "begin" "Machine.begin" aDa fM1 fdM1)
  (qM2:jM K CM "knows" "Machine.knows" aCx fM2 fdM2)
  (qM3:jM K CM "goes" "Machine.goes" aLl fM3 fdM3)
  (qM4:jM K CM "require_room" "Machine.require_room" tU fM4 fdM4)
  (qM5:jM K CM "is_end" "Machine.is_end" aCy fM5 fdM5)
  (qM6:jM K CM "rooms" "Machine.rooms" aCw fM6 fdM6)
  (qM7:jM K CM "ends" "Machine.ends" aLm fM7 fdM7)
  (qM8:jM K CM "to" "Machine.to" mTo fM8 fdM8)
  (aV:nsIn K mainGlobals "Woven"=some (some (.ref CW)))
  (qV0:jM K CW "deeds" "Woven.deeds" aBi fV0 fdV0)
  (qV1:jM K CW "begin" "Woven.begin" aBj fV1 fdV1)
  (qV2:jM K CW "knows" "Woven.knows" aBg fV2 fdV2)
  (qV3:jM K CW "at" "Woven.at" wAt fV3 fdV3)
  (qV4:jM K CW "to" "Woven.to" wTo fV4 fdV4)
  (qV5:jM K CW "ways" "Woven.ways" aDs fV5 fdV5)
  (qV6:jM K CW "__init__" "Woven.__init__" aIj fV6 fdV6)
  (qV7:findIn K (.ref CW) "rooms"=some (some (.ref fV7)))
  (lV7:K.lookup fV7=some ⟨ocV7,odV7,.func (fnOf "rooms" "Woven.rooms" (aJ gZ) (aI gZ) (aB gZ) .none kVV7 dcV7 pmV7 anV7 (.ref cR) ctV7),slV7⟩)
  (cV7:codeIn K (.ref cR) "Woven.rooms"=true)
  (kV7:keepIn K (.ref fV7)=true)
  (nV7:isFn K (.ref fV7)=true)
  (qV8:jM K CW "is_end" "Woven.is_end" aBh fV8 fdV8)
  (mkV:makesIn K CW=true)
  (kpV:keepIn K (.ref CW)=true)
  (pgV:plainGet K CW Str.empty=true)
  (hdV:hasDictIn K CW=true)
  (poV:plainOver K CW=true)
  (saV:findIn K (.ref CW) "__setattr__" = some (some (.builtin "object.__setattr__")))
  (nV0_:findIn K (.ref CW) "machines"=some none)
  (nV1_:findIn K (.ref CW) "known_marks"=some none)
  (qMI:findIn K (.ref CM) "__init__"=some (some (.ref fMI)))
  (lMI:K.lookup fMI=some ⟨ocMI,odMI,.func (fnOf "__init__" "Machine.__init__" (aJ nN) (aI nN) (aB nN) (.ref Te) kVMI dcMI pmMI anMI cdMI ctMI),slMI⟩)
  (cMI:codeIn K cdMI "Machine.__init__"=true)
  (kMI:keepIn K (.ref fMI)=true)
  (nMI:isFn K (.ref fMI)=true)
  (lE:K.lookup Te=some ⟨ocE,odE,.seq #[.none] nE,slE⟩)
  (mkM:makesIn K CM=true)
  (kpM:keepIn K (.ref CM)=true)
  (pgM:plainGet K CM Str.empty=true)
  (hdM:hasDictIn K CM=true)
  (poM:plainOver K CM=true)
  (saM:findIn K (.ref CM) "__setattr__" = some (some (.builtin "object.__setattr__")))
  (nM0_:findIn K (.ref CM) "leads"=some none)
  (nM1_:findIn K (.ref CM) "deeds_made_of"=some none)
  (nM2_:findIn K (.ref CM) "first_room"=some none)
  (nM3_:findIn K (.ref CM) "end_marks"=some none)
  (nM4_:findIn K (.ref CM) "known_marks"=some none)
  (qI:findIn K (.ref C) "__init__"=some (some (.ref fI)))
  (lI:K.lookup fI=some ⟨ocI,odI,.func (fnOf "__init__" "Deeds.__init__" (aJ iR) (aI iR) (aB iR) (.ref Td) kVI dcI pmI anI cdI ctI),slI⟩)
  (cI:codeIn K cdI "Deeds.__init__"=true)
  (kI:keepIn K (.ref fI)=true)
  (nI:isFn K (.ref fI)=true)
  (lT:K.lookup Td=some ⟨ocT,odT,.seq #[.none] nT,slT⟩)
  (mkC:makesIn K C=true)
  (kpC:keepIn K (.ref C)=true)
  (pgC:plainGet K C Str.empty=true)
  (hdC:hasDictIn K C=true)
  (poC:plainOver K C=true)
  (saC:findIn K (.ref C) "__setattr__" = some (some (.builtin "object.__setattr__")))
  (nwC:findIn K (.ref C) "weights"=some none)
  (nfC:findIn K (.ref C) "free_marks"=some none)
  (e0:nsIn K mainGlobals "NoName"=some (some (.ref d0)))
  (e1:nsIn K mainGlobals "NoDeed"=some (some (.ref d1)))
  (e2:nsIn K mainGlobals "NoRoom"=some (some (.ref d2)))
  (e3:nsIn K mainGlobals "TwiceTold"=some (some (.ref d3)))
  (e4:nsIn K mainGlobals "TooMany"=some (some (.ref d4)))
  (e5:nsIn K mainGlobals "NoRule"=some (some (.ref d5)))
  (e6:nsIn K mainGlobals "NoRow"=some (some (.ref d6)))
  (e7:nsIn K mainGlobals "NoHold"=some (some (.ref d7)))
  (e8:nsIn K mainGlobals "NoHolder"=some (some (.ref d8)))
  (e9:nsIn K mainGlobals "FreeDeed"=some (some (.ref d9)))
  (e10:nsIn K mainGlobals "NotNow"=some (some (.ref d10)))
  (e11:nsIn K mainGlobals "NoWarden"=some (some (.ref d11)))
  (e12:nsIn K mainGlobals "NoText"=some (some (.ref d12)))
  (e13:nsIn K mainGlobals "NoBook"=some (some (.ref d13)))
  (eW:nsIn K mainGlobals "WardError"=some (some (.ref W)))
  (xa0:excIn K d0 sJ "ValueError.__new__"=true)
  (xa1:excIn K d1 sJ "ValueError.__new__"=true)
  (xa2:excIn K d2 sJ "ValueError.__new__"=true)
  (xa3:excIn K d3 sJ "ValueError.__new__"=true)
  (xa4:excIn K d4 sJ "ValueError.__new__"=true)
  (xb4:findIn K (.ref d4) "__class__" = some (some (.builtin "object.__class__")))
  (xc4:findIn K (.ref d4) "__getattribute__" = some (some (.builtin "BaseException.__getattribute__")))
  (xd4:findIn K (.ref d4) "__getattr__"=some none)
  (xe4:mroIn K d4 (.type "object")=some true)
  (xf4:mroIn K d4 (.type "BaseException")=some true)
  (kt:aXh K [d0,d1,d2,d3,d4,d5,d6,d7,d8,d9,d10,d11,d12,d13]=true)
  (kv:veB K [d0,d1,d2,d3,d4,d5,d6,d7,d8,d9,d10,d11,d12,d13]=true)
  (kw:exB K [d0,d1,d2,d3,d4,d5,d6,d7,d8,d9,d10,d11,d12,d13] W=true)
  (ncE:findIn K (.ref C) "__eq__" = some (some (.builtin "object.__eq__")))
  (ncN:findIn K (.ref C) "__ne__" = some (some (.builtin "object.__ne__")))
  (ncM:mroIn K C (.type "object")=some true)
  (hhd:codeHdIn K c0 P1=true)
  (hh2:codeHdIn K cR Pr=true)
  (cst0:nsIn K mainGlobals "LETTERS"=some (some (.str jF t0)))
  (cst1:nsIn K mainGlobals "FIGURES"=some (some (.str kQ t1)))
  (cst2:nsIn K mainGlobals "MOST_SIGNS"=some (some (.int 8 t2)))
  (cst3:nsIn K mainGlobals "MOST_DEEDS"=some (some (.int 12 t3)))
  (cst4:nsIn K mainGlobals "MOST_ROOMS"=some (some (.int 60 t4)))
  (cst5:nsIn K mainGlobals "MOST_WOVEN"=some (some (.int 7 t5)))
  (z0:nsIn K mainGlobals "isinstance"=some none)
  (z1:nsIn K mainGlobals "str"=some none)
  (z2:nsIn K mainGlobals "bool"=some none)
  (z3:nsIn K mainGlobals "int"=some none)
  (z4:nsIn K mainGlobals "len"=some none)
  (z5:nsIn K mainGlobals "all"=some none)
  (z6:nsIn K mainGlobals "range"=some none)
  (z7:nsIn K mainGlobals "sorted"=some none)
  (z8:nsIn K mainGlobals "list"=some none)
  (z9:nsIn K mainGlobals "enumerate"=some none)
  (z10:nsIn K mainGlobals "ValueError"=some none)
  (z11:nsIn K mainGlobals "tuple"=some none)
  (z12:nsIn K mainGlobals "zip"=some none)
  (z13:nsIn K mainGlobals "set"=some none)
  (z14:nsIn K mainGlobals "sum"=some none) :
  ∃ fd:FuncData,(∀ (s:Shared) (v:Value),BindsTo s fd ⟨[v],[]⟩ [("_law_script",v)])/\∀ base:Heap,K.In base->base.Ns mainGlobals mg->jT mg base->aY l.prog w K mg base CX0 15 fa fd ["_law_script"] (aEd K P1 Pr):=by
 have e:=hfa.symm.trans (xAl X G a31);cases e;have T:Txt K mg:=⟨⟨_,xAl X G cst0⟩,⟨_,xAl X G cst1⟩,⟨_,xAl X G cst2⟩,⟨_,xAl X G cst3⟩,xBy X G z0,xBy X G z1,xBy X G z2,xBy X G z3,xBy X G z4,xBy X G z5,xBy X G z6,xBy X G z7,xBy X G z8,xBy X G z9⟩;obtain⟨a1,F1⟩:=a1;have k1:=F1.2;obtain⟨a2,F2⟩:=a2;have k2:=F2.2;obtain⟨a3,F3⟩:=a3;have k3:=F3.2;obtain⟨a4,F4⟩:=a4;have k4:=F4.2;obtain⟨a5,F5⟩:=a5;have k5:=F5.2;obtain⟨a6,F6⟩:=a6;have k6:=F6.2;obtain⟨a7,F7⟩:=a7;have k7:=F7.2;obtain⟨a8,F8⟩:=a8;have k8:=F8.2;obtain⟨a9,F9⟩:=a9;have k9:=F9.2;obtain⟨a10,F10⟩:=a10;have k10:=F10.2;obtain⟨a11,F11⟩:=a11;have k11:=F11.2;obtain⟨a12,F12⟩:=a12;have k12:=F12.2;obtain⟨a13,F13⟩:=a13;have k13:=F13.2;obtain⟨a14,F14⟩:=a14;have k14:=F14.2;obtain⟨a15,F15⟩:=a15;have k15:=F15.2;obtain⟨a16,F16⟩:=a16;have k16:=F16.2;obtain⟨a17,F17⟩:=a17;have k17:=F17.2;obtain⟨a18,F18⟩:=a18;have k18:=F18.2;obtain⟨a19,F19⟩:=a19;have k19:=F19.2;obtain⟨a20,F20⟩:=a20;have k20:=F20.2;obtain⟨a21,F21⟩:=a21;have k21:=F21.2;obtain⟨a22,F22⟩:=a22;have k22:=F22.2;obtain⟨a23,F23⟩:=a23;have k23:=F23.2;obtain⟨a24,F24⟩:=a24;have k24:=F24.2;obtain⟨a25,F25⟩:=a25;have k25:=F25.2;obtain⟨a26,F26⟩:=a26;have k26:=F26.2;obtain⟨a27,F27⟩:=a27;have k27:=F27.2;obtain⟨a28,F28⟩:=a28;have k28:=F28.2;obtain⟨a29,F29⟩:=a29;have k29:=F29.2;obtain⟨a30,F30⟩:=a30;have k30:=F30.2;have Mm0:=qm0.m;have Fm0:=qm0.2.1;have Mm1:=qm1.m;have Fm1:=qm1.2.1;have MM0:=qM0.m;have FM0:=qM0.2.1;have MM1:=qM1.m;have FM1:=qM1.2.1;have MM2:=qM2.m;have FM2:=qM2.2.1;have MM3:=qM3.m;have FM3:=qM3.2.1;have MM4:=qM4.m;have FM4:=qM4.2.1;have MM5:=qM5.m;have FM5:=qM5.2.1;have MM6:=qM6.m;have FM6:=qM6.2.1;have MM7:=qM7.m;have FM7:=qM7.2.1;have MM8:=qM8.m;have FM8:=qM8.2.1;have FV0:=qV0.2.1;have MV0:=qV0.m;have FV1:=qV1.2.1;have MV1:=qV1.m;have FV2:=qV2.2.1;have MV2:=qV2.m;have FV3:=qV3.2.1;have MV3:=qV3.m;have FV4:=qV4.2.1;have MV4:=qV4.m;have FV5:=qV5.2.1;have MV5:=qV5.m;have FV6:=qV6.2.1;have FV7:=fun_mk (st:=gZ) lV7 cV7 kV7;have MV7:fV K CW "rooms" fV7:=⟨qV7,nV7,kV7⟩;have FV8:=qV8.2.1;have MV8:=qV8.m;have FI:aMx K "__init__" "Deeds.__init__" iR fI _:=⟨⟨_,_,_,_,_,_,_,_,_,_,rfl,lI,cI⟩,kI⟩
 have bI:aW K _ ["self","names","free"] []:=λs us KX hl=>by
  rw[xBm] at hl ⊢;revert us;exact aUh λ_ _ _=>BindsTo.of_defaults (fd:=fnOf "__init__" "Deeds.__init__" (aJ iR) (aI iR) (aB iR) (.ref Td) kVI dcI pmI anI cdI ctI) rfl (KX _ _ lT) rfl rfl rfl
 have FMI:aMx K "__init__" "Machine.__init__" nN fMI _:=⟨⟨_,_,_,_,_,_,_,_,_,_,rfl,lMI,cMI⟩,kMI⟩
 have bMI:aW K _ ["self","deeds","begin","ends","doors","more"] []:=λs us KX hl=>by
  rw[xBm] at hl ⊢;revert us;exact aXc λ_ _ _ _ _ _=>BindsTo.of_defaults (fd:=fnOf "__init__" "Machine.__init__" (aJ nN) (aI nN) (aB nN) (.ref Te) kVMI dcMI pmMI anMI cdMI ctMI) rfl (KX _ _ lE) rfl rfl rfl
 have bI1:aW K (fnOf "__init__" "Deeds.__init__" (aJ iR) (aI iR) (aB iR) (.ref Td) kVI dcI pmI anI cdI ctI) ["self","names","free"] [.none]:=λs us KX hl=>by
  have hl':us.length=2:=by
   have:us.length+1=3:=by simpa using hl
   omega
  clear hl;revert us;exact aUi λ_ _=>BindsTo.of_defaults (fd:=fnOf "__init__" "Deeds.__init__" (aJ iR) (aI iR) (aB iR) (.ref Td) kVI dcI pmI anI cdI ctI) rfl (KX _ _ lT) rfl rfl rfl
 have MC:lA K CM:=⟨⟨pgM,hdM,poM,saM⟩,nM0_,nM1_,nM2_,nM3_,nM4_⟩;have MMk:Mk K CM fMI:=⟨mkM,qMI,nMI,kpM⟩;have DC:aDr K C:=⟨⟨pgC,hdC,poC,saC⟩,nwC,nfC⟩;have MI:Mk K C fI:=⟨mkC,qI,nI,kpC⟩
 let ds:Nat->Addr:=λj=>([d0,d1,d2,d3,d4,d5,d6,d7,d8,d9,d10,d11,d12,d13]:List Addr).getD j 0
 have Wf:Wd K mg ds:=by
  refine⟨wF (ns:=nms) (as:=[d0,d1,d2,d3,d4,d5,d6,d7,d8,d9,d10,d11,d12,d13]) ⟨xAl X G e0,xAl X G e1,xAl X G e2,xAl X G e3,xAl X G e4,xAl X G e5,xAl X G e6,xAl X G e7,xAl X G e8,xAl X G e9,xAl X G e10,xAl X G e11,xAl X G e12,xAl X G e13,trivial⟩,λi hi=>?_,λi hi j hj=>?_,λi hi=>?_,xBy X G z10⟩
  ·rcases xAo.mp hi with rfl | hi
   ·exact⟨xa4,xb4,xc4,xd4,xe4,xf4⟩
   cases hi
  ·exact xEe.mp (xBn.mp (xBn.mp kt i hi) j (xDm.mpr hj))
  ·exact xEe.mp (xBn.mp kv i hi)
 have hkw:∀ i∈iK,exmOne K (.ref (ds i)) (.ref W)=some true:=λi hi=>xEe.mp (xBn.mp kw i hi);have Ex:Exc K mg (λk=>ds (ix k)):=⟨xAl X G e0,xAl X G e1,xAl X G e3,xAl X G e4,λk=>match k with | .noName=>xa0 | .noDeed=>xa1 | .twice=>xa3 | .tooMany=>xa4⟩
 have WC:rU K CW:=⟨⟨pgV,hdV,poV,saV⟩,nV0_,nV1_⟩;have WMk:Mk K CW fV6:=⟨mkV,qV6.1,qV6.2.2,kpV⟩;refine⟨fnOf "law" "law" (aJ kY) (aI kY) (aB kY) .none kV31 dc31 pm31 an31 (.ref c0) ct31,λs v=>.of_eq rfl,λbase _ _ bm=>?_⟩;have GQ:=aCg (P:=l.prog) (w:=w) (mg:=mg) (base:=base) Fm1 T Ex DC F3 (bn F3) (xAl X G a3) Fm0 (bn Fm0) Mm0;have GK:=aKs (P:=l.prog) (w:=w) (mg:=mg) (base:=base) F6 T;have GC:=aOq (P:=l.prog) (w:=w) (mg:=mg) (base:=base) F2 T F1 (bn F1) (xAl X G a1);have zT:mg "tuple"=none:=xBy X G z11;have zZ:mg "zip"=none:=xBy X G z12;have GB:=aGw (P:=l.prog) (w:=w) (mg:=mg) (base:=base) FM1 MC;have GKn:=aGu (P:=l.prog) (w:=w) (mg:=mg) (base:=base) FM2 T MC;have GGo:=aKv (P:=l.prog) (w:=w) (mg:=mg) (base:=base) FM3 MC;have GMD:=aGv (P:=l.prog) (w:=w) (mg:=mg) (base:=base) FM0 MC;have GBO:=aCm (P:=l.prog) (w:=w) (mg:=mg) (base:=base) F23 zT MC GB (bn FM1) MM1;have GFO:=aKy (P:=l.prog) (w:=w) (mg:=mg) (base:=base) F24 zT zZ MC GGo (bn FM3) MM3;have GKO:=aCk (P:=l.prog) (w:=w) (mg:=mg) (base:=base) F27 MC GKn (bn FM2) MM2 GK k6 (bn F6) (xAl X G a6);have GWI:aY l.prog w K mg base (CXE l.prog w) 3 fV6 _ ["self","machines"] (wS CM CW (ds 4)):=aKq FV6 T WC ⟨_,xAl X G cst5⟩ (xAl X G e4) xa4 GKO k27 (bn F27) (xAl X G a27);have GWD:=aGp (P:=l.prog) (w:=w) (mg:=mg) (base:=base) FV0 WC MC GMD (bn FM0) MM0;have GWB:=aGq (P:=l.prog) (w:=w) (mg:=mg) (base:=base) FV1 WC GBO k23 (bn F23) (xAl X G a23);have GWK:=aGn (P:=l.prog) (w:=w) (mg:=mg) (base:=base) (CM:=CM) FV2 T WC;have GWT:aY l.prog w K mg base (CXE l.prog w) 4 fV4 _ ["self","room","deed"] (aDz K C CM CW (ds 1)):=aRp (cl:=λk=>ds (ix k)) FV4 DC WC GWD (bn FV0) MV0 GQ (bn Fm1) Mm1 GFO k24 (bn F24) (xAl X G a24);have GWA:=aRq (P:=l.prog) (w:=w) (mg:=mg) (base:=base) FV3 WC GWK (bn FV2) MV2 GWT (bn FV4) MV4;have GWY:=aKp (P:=l.prog) (w:=w) (mg:=mg) (base:=base) FV5 WC GWA (bn FV3) MV3 GWT (bn FV4) MV4;have GRT:=aGr (P:=l.prog) (w:=w) (mg:=mg) (base:=base) (kd:=7) (cT:=ds 4) F25 T (xAl X G e4) xa4;have GCT:=aGx (P:=l.prog) (w:=w) (mg:=mg) (base:=base) (kd:=7) (cT:=ds 4) F26 T GRT k25 (bn F25) (xAl X G a25);have GWR:=aGm (P:=l.prog) (w:=w) (mg:=mg) (base:=base) (C:=C) (CM:=CM) (CW:=CW) (cT:=ds 4) (Pr:=Pr) lV7 cV7 hh2 bm WC ⟨_,xAl X G cst4⟩ GWB (bn FV1) MV1 GWY (bn FV5) MV5 GCT k26 (bn F26) (xAl X G a26);have GRq:=aKt (P:=l.prog) (w:=w) (mg:=mg) (base:=base) FM4 T MC (xAl X G e2) xa2 F3 (bn F3) (xAl X G a3);have GEd:=aCj (P:=l.prog) (w:=w) (mg:=mg) (base:=base) FM5 MC GRq (bn FM4) MM4;have GAE:=aCn (P:=l.prog) (w:=w) (mg:=mg) (base:=base) F29 T zZ MC GEd (bn FM5) MM5;have GWE:=aGo (P:=l.prog) (w:=w) (mg:=mg) (base:=base) FV8 WC GAE k29 (bn F29) (xAl X G a29);have NC:aBb K C:=⟨ncE,ncN,ncM⟩;have GMB:=xK (P:=l.prog) (w:=w) (mg:=mg) (base:=base) F15 T (pD F1) k1 (bn F1) (xAl X G a1) (aCf F14 T) k14 (bn F14) (xAl X G a14);have GMI:=aKu (P:=l.prog) (w:=w) (mg:=mg) (base:=base) FMI T DC MC ⟨_,xAl X G cst4⟩ (aKr F11) k11 (bn F11) (xAl X G a11) (zQ F12 T Ex F3 (bn F3) (xAl X G a3)) k12 (bn F12) (xAl X G a12) (aKx F13) k13 (bn F13) (xAl X G a13) GK k6 (bn F6) (xAl X G a6) GQ (bn Fm1) Mm1;have GSt:=aOh (P:=l.prog) (w:=w) (mg:=mg) (base:=base) F20 T zT;have GMs:=zR (P:=l.prog) (w:=w) (mg:=mg) (base:=base) (C:=C) (CM:=CM) F18 GMI MMk bMI (xAl X G aM);have GWo:=aOg (P:=l.prog) (w:=w) (mg:=mg) (base:=base) F9 T Wf;have GMO:=aOl (P:=l.prog) (w:=w) (mg:=mg) (base:=base) (C:=C) (CM:=CM) (CW:=CW) (cT:=ds 4) (Pr:=Pr) F28 T WC GWR (bn FV7) MV7 GWY (bn FV5) MV5 GWE (bn FV8) MV8 GWD (bn FV0) MV0 GWB (bn FV1) MV1 GWK (bn FV2) MV2 GMI MMk bMI (xAl X G aM)
 have GOG:=aOo (P:=l.prog) (w:=w) (mg:=mg) (base:=base) (C:=C) (CM:=CM) F30 T zZ (xBy X G z13) (xBy X G z14) MC GSt k20 (bn F20) (xAl X G a20)
  GB (bn FM1) MM1 (aGt FM6 T MC) (bn FM6) MM6 (aKw FM7 T MC) (bn FM7) MM7 GKn (bn FM2) MM2 (aOm FM8 T DC MC GRq (bn FM4) MM4 GQ (bn Fm1) Mm1) (bn FM8) MM8
 exact aRr l31 c31 hhd bm T WC MC NC Wf hkw (xAl X G eW)
  GC k2 (bn F2) (xAl X G a2)
  (aCl F8 T F1 (bn F1) (xAl X G a1) F7 (bn F7) (xAl X G a7)) k8 (bn F8) (xAl X G a8)
  (aOn FI T DC (aGs F4 T Ex F3 (bn F3) (xAl X G a3)) k4 (bn F4) (xAl X G a4) (aCe F5 T) k5 (bn F5) (xAl X G a5) GK k6 (bn F6) (xAl X G a6) GQ (bn Fm1) Mm1) MI bI bI1 (xAl X G aC)
  (aCh F16 T GMB k15 (bn F15) (xAl X G a15)) k16 (bn F16) (xAl X G a16)
  (aOj F17 T (pD F1) k1 (bn F1) (xAl X G a1) GMB k15 (bn F15) (xAl X G a15)) k17 (bn F17) (xAl X G a17)
  GMs k18 (bn F18) (xAl X G a18)
  GWI WMk (bn FV6) (xAl X G aV)
  (aOi F22 T) k22 (bn F22) (xAl X G a22)
  (aOk F19) k19 (bn F19) (xAl X G a19) (aOp F21 T zT GSt k20 (bn F20) (xAl X G a20)) k21 (bn F21) (xAl X G a21)
  GMO k28 (bn F28) (xAl X G a28) GOG k30 (bn F30) (xAl X G a30) GMD (bn FM0) MM0
  F10 (bn F10) (xAl X G a10) GWo k9 (bn F9) (xAl X G a9)
theorem walk {l:OpenLaw}{q:Program}{loose:List Str}{XP:(Str->Option Value)->Heap->Prop}{YP:World->Heap->Prop}{d:DefRec}{K:Params->xAd}{c0 cR:Addr}(P1 Pr:Addr)(hn:l.most=some 63)(hdf:d.params.defaults=[])(hne:P1≠Pr)
  (hY:∀ (w:World) (h:Heap),YP w h->(K w.params).In h/\∀ p∈[Pr,P1],h.get? p=some (tabObj #[]))
  (F:∀ (w:World) (mg:xSO) (fa:Addr) (h:Heap),(K w.params).In h->h.Ns mainGlobals mg->mg d.name=some (.ref fa) ->
   ∃ fd:FuncData,(∀ (s:Shared) (u:Value),BindsTo s fd ⟨[u],[]⟩ [("_law_script",u)])/\∀ base:Heap,(K w.params).In base->base.Ns mainGlobals mg->jT mg base->aY l.prog w (K w.params) mg base CX0 15 fa fd ["_law_script"] (aEd (K w.params) P1 Pr))
  (hK:∀ (w:World),∀ p∈[(c0,P1),(cR,Pr)],codeHdIn (K w.params) p.1 p.2=true/\(K w.params).lookup p.2=none) :
  WalkO q loose XP YP l.row.toRowW d [] (λf vs=>PySem.call f vs):=
 L2.walk_ofT (n:=63) (k:=15) (x:="_law_script") (sp:=λw=>aEd (K w.params) P1 Pr) [(c0,P1),(cR,Pr)] hn (by decide) hdf ⟨rfl,by decide,by decide⟩
  (λw h Y=>⟨(hY w h Y).1,λp hp=>(hY w h Y).2 p.2 (by
   rcases xAo.mp hp with rfl | hp
   ·simp
   rw[xBb.mp hp]
   simp)⟩) hK F
  (λw H a ns hl hT hS=>⟨a,ns,rfl,hS,hl,hT (c0,P1) (by simp),hT (cR,Pr) (by simp),hne,λ_=>rfl⟩)
end K23
namespace Hd
open PySem PySem.W
abbrev aHp:=PySem.W.Fast.tw14364793385576792824
abbrev aQj:=PySem.W.Fast.tw10110043849684766642
abbrev aUo:=PySem.W.Fast.tw14374325043358763698
abbrev fGo:=PySem.W.Fast.tw15667345088766844465
abbrev aUp:=PySem.W.Fast.tw14082659384304107361
abbrev aUq:=PySem.W.Fast.tw11892475500146522536
abbrev fSeen:=PySem.W.Fast.tw4187177175401517315
theorem aPg:PySem.treeTable=aHp:=PySem.W.Fast.te14364793385576792824
theorem aUr:@PySem.W.segRunT=aQj:=PySem.W.Fast.te10110043849684766642
theorem aXk:@PySem.W.segRun=aUo:=PySem.W.Fast.te14374325043358763698
theorem eGo:@PySem.W.topGo=fGo:=PySem.W.Fast.te15667345088766844465
theorem aXl:@PySem.W.topRun=aUp:=PySem.W.Fast.te14082659384304107361
theorem aXm:@PySem.denote=aUq:=PySem.W.Fast.te11892475500146522536
theorem aUs:@PySem.W.openSeen=fSeen:=PySem.W.Fast.te4187177175401517315
abbrev an:Option Value:=some (.ref 6)
abbrev p0:Pos:=⟨0,0,0,0⟩
abbrev d0:Drawn:=⟨0,0,0,0⟩
def lf:Life:=⟨[],[],[],0,[],[],false,#[],[],0,false,false,false,0,[2000,10,10],false,0,true,[],[],0,false⟩
def St (T:Params->BT)(n k:Nat)(w:World)(os:OsState):SharedT:=⟨T w.params,n,lf,#[],d0,k,os⟩
def Sh (H:Params->Heap)(k:Nat)(w:World)(os:OsState):Shared:=⟨H w.params,#[],d0,k,os⟩
abbrev cd (p:Program)(env:Env):Code:=.body (behindTheImports p) env
abbrev B:List Frame:=[topFrame p0]
def Pre (p:Program)(env:Env)(H:Params->Heap)(k s:Nat)(a:Pos):Prop:=
 ∀ w:World,(λos=>fGo aHp p w 11 an s ⟨boot_heap w.params,Array.mk [],boot_drawn,boot_toks,os⟩ (topStub p))=λos=>some (Sh H k w os,⟨aUq aHp (cd p env),cd p env,a,B⟩)
def Blk (p:Program)(env:Env)(H:Params->Heap)(k:Nat)(T:Params->BT)(n k' s:Nat)(a b:Pos):Prop:=
 ∀ w:World,(λos=>aUo aHp p w 11 an 1 s (Sh H k w os) (blockOf (behindTheImports p) env (cd p env) a B))=λos=>some (.next,(St T n k' w os).abs,cd p env,b)
def Pc (p:Program)(env:Env)(T:Params->BT)(n k:Nat)(T':Params->BT)(n' k' s:Nat)(l:List Stmt)(a b:Pos):Prop:=
 ∀ w:World,(λos=>aQj aHp p w 11 an 1 s (St T n k w os) (piecesOf l env (cd p env) a B))=λos=>some (.next,St T' n' k' w os,cd p env,b)
def Fi (p:Program)(env:Env)(T:Params->BT)(n k:Nat)(H:Params->Heap)(k' s:Nat)(a:Pos):Prop:=
 ∀ w:World,(λos=>aUp aHp p w 11 an s (St T n k w os).abs ⟨doneF .next,cd p env,a,B⟩)=λos=>some (Sh H k' w os)
def Rn (p:Program)(env:Env)(T:Params->BT)(n k:Nat)(H:Params->Heap)(k':Nat)(l:List Stmt)(a:Pos)(N:Nat):Prop:=
 ∀ (w:World) (os:OsState),topRun treeTable p w 11 an N (St T n k w os).abs (restOf l env (cd p env) a B)=some (Sh H k' w os)
section
variable {p:Program}{env:Env}{T T':Params->BT}{H H':Params->Heap}{n k n' k' kf s N:Nat}{l r:List Stmt}{a b:Pos}
theorem Fi.run (h:Fi p env T n k H k' s a):Rn p env T n k H k' [] a s:=λw os=>by
 refine piece_nil ?_;rw[aXl,aPg];exact congrFun (h w) os
theorem Pc.run (h:Pc p env T n k T' n' k' s l a b)(q:Rn p env T' n' k' H kf r b N):Rn p env T n k H kf (l++r) a (s+N):=λw os=>by
 refine piece_app (segRun_of ?_) (q w os);rw[aUr,aPg];exact congrFun (h w) os
theorem top_run {s1 s2:Nat}(h1:Pre p env H' k s1 a)(h2:Blk p env H' k T n k' s2 a b)(hl:l=behindTheImports p)(q:Rn p env T n k' H kf l b N)(w:World)(os:OsState) :
  topRun treeTable p w 11 an (s1+(s2+N)) ⟨boot_heap w.params,Array.mk [],boot_drawn,boot_toks,os⟩ (topStub p)=some (Sh H kf w os):=by
 have e1:topGo treeTable p w 11 an s1 ⟨boot_heap w.params,Array.mk [],boot_drawn,boot_toks,os⟩ (topStub p)=some (Sh H' k w os,⟨denote treeTable (cd p env),cd p env,a,B⟩):=by
  rw[eGo,aPg,aXm];exact congrFun (h1 w) os
 have e2:segRun treeTable p w 11 an 1 s2 (Sh H' k w os) (blockOf (behindTheImports p) env (cd p env) a B)=some (.next,(St T n k' w os).abs,cd p env,b):=by
  rw[aXk,aPg];exact congrFun (h2 w) os
 subst hl;exact go_top e1 (piece_block e2 (q w os))
theorem aHy:∀ w:World,((boot_heap w.params).isNs mainGlobals&&(Array.mk []:Array GenState).size==0,(boot_heap w.params).objs.size,(boot_heap w.params).nsMap mainGlobals "__annotations__")=(true,11,an):=by
 intro w
 kernel_rfl
theorem left_of {q:Program}{loose:List Str}{Xt:Shared->Bool}{α:Type}{Yf:Shared->α}{Ya:World->α}{M:Nat}(e:opening p=plainProg p.main.scope.names)(f:∀ s,fenceModules? p s=some s)(hN:Nat.ble 600 N=true)(le:Nat.ble M N=true)
  (run:∀ (w:World) (os:OsState),topRun treeTable p w 11 an M ⟨boot_heap w.params,Array.mk [],boot_drawn,boot_toks,os⟩ (topStub p)=some (Sh H k w os))
  (looks:∀ w:World,(λos=>((staticsOk (importedModules p.main.body) (boot_heap w.params) (H w.params)&&namesBound p (H w.params)&&gensDone (Sh H k w os)&&laidKept (boot_heap w.params) (H w.params)),
    fSeen q loose (importedModules p.main.body) Xt true (Sh H k w os),Yf (Sh H k w os)))=λ_=>(true,openGood q loose,Ya w)):LeftO p q loose Xt Yf Ya N true:=by
 refine LeftO.of_pieces (boot_open e hN f) aHy run le (λw=>?_);have h:=looks w;rw[<- aUs] at h;exact h
end
end Hd
namespace K23H
open PySem PySem.W
open L2 (aE aJ aI aB)
open PySem.W.BT renaming node → bn, nil → bz
abbrev r:=Value.ref
abbrev zaa:Array (Option Value):=#[(some (.ref 22)),none,(some (.str "WardError" 196)),(some (.str "WardError" 204)),(some (.builtin "ValueError.__new__")),(some (.bool true))]
abbrev zab:Obj:=⟨.type "builtin_function_or_method",none,.fields #[.builtin "type.__prepare__",.type "type"],#[]⟩
abbrev zac:Value:=(.str "roomward.errors" 194)
abbrev zad:List Value:=[.ref 31,.type "ValueError",.type "Exception",.type "BaseException",.type "object"]
abbrev zae:Value:=(.str "law_roomward_k23_made_one" 904)
abbrev zaf:Value:=(.str "roomward.machines" 624)
abbrev zag:Option Value:=(some (.builtin "ValueError.__new__"))
abbrev zah:Value:=(.str "roomward.weaving" 779)
abbrev zai:Value:=(.str "roomward.deeds" 493)
abbrev zaj:Option Value:=(some (.bool true))
abbrev pp:Program:=PySem.Challenge.pw_roomward_k23_made_one
def tp (i:Nat):Stmt:=pp.main.body.getD i (.Pass ⟨0,0,0,0⟩)
abbrev kh:=@PySem.PyData.keyHash
abbrev en (P:Params)(k:Str)(n:Nat)(v:Value):DictEntry:=⟨kh P k,.str k n,v⟩
noncomputable section
abbrev co (l:List Value):Obj:=⟨.type "code",none,.fields l.toArray,#[]⟩
abbrev nf (l:List Value):Obj:=⟨.none,none,.fields l.toArray,#[]⟩
abbrev tu (l:List Value):Obj:=⟨.type "tuple",none,.seq l.toArray 0,#[]⟩
abbrev fu (f:FuncData):Obj:=⟨.type "function",none,.func f,#[]⟩
abbrev nu (f:FuncData):Obj:=⟨.none,none,.func f,#[]⟩
abbrev i0 (n:Int):Value:=.int n 0
abbrev cp (n:Nat):Value:=.str "/claim/cut.py" n
abbrev fv (n q:Str)(s:Stmt)(a:Nat)(m c:Value):Obj:=fu ⟨n,q,aJ s,.stmts (aI s),aB s,a,[],.none,.none,.none,m,none,c,.none,0⟩
abbrev nv (n q:Str)(s:Stmt)(a:Nat)(m c:Value):Obj:=nu ⟨n,q,aJ s,.stmts (aI s),aB s,a,[],.none,.none,.none,m,none,c,.none,0⟩
abbrev fw (n:Str):=fv n n
abbrev nw (n:Str):=nv n n
abbrev cv (a:Str)(x:Nat)(b:Str)(y z:Nat)(c d e f g:Int)(p:Nat)(q:Int)(r:Nat)(s:Int)(u:Nat):Obj:=co [.str a x,.str b y,cp z,i0 c,i0 d,i0 e,i0 f,i0 g,.ref p,.bool false,i0 q,.ref r,.none,.none,.none,.none,i0 s,i0 c,cp u]
abbrev fm (a b c:Nat)(s:Str)(n d:Nat):Obj:=⟨.type "frame",none,.plain,#[some (.ref a),some (.ref b),some (.ref c),none,some (.str s n),none,some (.ref d)]⟩
def o0:=tu []
def o1:=nf []
def o2:=cv "<module>" 182 "<module>" 183 184 1 0 0 0 0 11 181 12 185 186
def o3:=fm 13 3 3 "__main__" 164 0
def Ha (P:Params):Heap:=⟨Array.mk [boot_o_0 P,boot_o_1 P,boot_o_2 P,boot_o_3 P,boot_o_4 P,boot_o_5 P,boot_o_6 P,boot_o_7 P,boot_o_8 P,boot_o_9 P,boot_o_10 P,o0,o1,o2,o3],Hd.lf⟩
def env:Env:={ scope:=pp.main.scope,locals:=mainNs,globals:=mainNs,cells:=[],code:=.ref 13,frame:=some 14 }
theorem pre:Hd.Pre pp env Ha 187 12 ⟨0,0,0,0⟩:=by
 intro w
 kernel_rfl
def ns (t:BT)(l:List (Nat×Obj)):BT:=l.foldl (λt x=>t.ins x.1 x.2) t
abbrev be (x:Obj):BT:=bn x bz bz
def T0 (P:Params):BT:=(bn (boot_o_0 P) (bn (boot_o_1 P) (bn (boot_o_3 P) (be (boot_o_7 P)) (be o0)) (bn (boot_o_5 P) (be (boot_o_9 P)) (be o2))) (bn (boot_o_2 P) (bn (boot_o_4 P) (be (boot_o_8 P)) (be o1)) (bn (boot_o_6 P) (be (boot_o_10 P)) (be o3))))
theorem blk:Hd.Blk pp env Ha 187 T0 15 187 1 ⟨0,0,0,0⟩ ⟨0,0,0,0⟩:=by
 intro w
 kernel_rfl
def g0 (P:Params):List DictEntry:=[en P "__doc__" 166 .none,en P "__package__" 167 .none,en P "__loader__" 168 (.builtin "__main__.__loader__#opaque"),en P "__spec__" 169 .none,en P "__annotations__" 170 (.ref 6),en P "__builtins__" 171 (.ref 4),en P "__file__" 173 (.str "/claim/cut.py" 172),en P "__cached__" 174 .none,en P "_wall" 193 (.ref 21),en P "WardError" 213 (.ref 31)]
def o4 (P:Params):Obj:=⟨.type "dict",none,.dict ⟨en P "__name__" 165 zac::g0 P⟩ 11,#[]⟩
def o5:=nf [i0 1,i0 0,r 20,i0 5,i0 0,r 27]
def o6:=tu []
def o7:=nf []
def o8:=tu [.str "k" 190]
def o9:=tu []
def o10:=nw "_wall" (tp 0) 0 .none .none
def o11:=co [.str "_wall" 187,.str "_wall" 188,cp 189,i0 1,i0 1,i0 0,i0 0,i0 3,r 15,.bool true,i0 181,r 16,.none,r 17,r 18,r 19,i0 191,i0 1,cp 192]
def o12:=fw "_wall" (tp 0) 3 (.str "__main__" 164) (r 20)
def o13:=tu [.type "ValueError"]
def o14:=zab
def o15 (P:Params):Obj:=⟨.type "dict",none,.dict #[en P "__module__" 203 zac,en P "__qualname__" 205 (.str "WardError" 204),en P "__firstlineno__" 207 (.int 5 206),en P "__static_attributes__" 208 (r 29)] 4,#[]⟩
def o16:=tu []
def o17:=nf []
def o18:=cv "WardError" 198 "WardError" 199 200 5 0 0 0 0 25 181 26 201 202
def o19:=fm 27 3 24 "roomward.errors" 194 0
def o20:=tu []
def o21 (P:Params):Obj:=⟨.type "dict",none,.dict #[en P "__module__" 203 zac,en P "__firstlineno__" 207 (.int 5 206),en P "__static_attributes__" 208 (r 29),en P "__weakref__" 210 (r 32),en P "__doc__" 211 .none] 3,#[]⟩
def o22:Obj:=⟨.type "type",none,.cls ⟨"WardError",[.type "ValueError"],zad,30,"WardError",true,[],[],false,none,false⟩,zaa⟩
def o23:Obj:=⟨.type "getset_descriptor",none,.fields #[.str "__weakref__" 209,r 31,.builtin "ExceptionGroup.__weakref__",.none],#[]⟩
def o24:Obj:=⟨.type "super",none,.fields #[r 31,r 31,r 31],#[]⟩
def o25:Obj:=⟨.type "builtin_function_or_method",none,.fields #[.builtin "object.__init_subclass__",r 31],#[]⟩
def T1 (P:Params):BT:=ns (T0 P) [(3,o4 P),(12,o5),(15,o6),(16,o7),(17,o8),(18,o9),(19,o10),(20,o11),(21,o12),(22,o13),(23,o14),(24,o15 P),(25,o16),(26,o17),(27,o18),(28,o19),(29,o20),(30,o21 P),(31,o22),(32,o23),(33,o24),(34,o25)]
theorem pc1:Hd.Pc pp env T0 15 187 T1 35 214 225 [tp 0,tp 1,tp 2] ⟨0,0,0,0⟩ ⟨5,0,6,8⟩:=by
 intro w
 kernel_rfl
def g1 (P:Params):List DictEntry:=g0 P++[en P "NoName" 229 (.ref 44)]
def o26 (P:Params):Obj:=⟨.type "dict",none,.dict ⟨en P "__name__" 165 zac::g1 P⟩ 12,#[]⟩
def o27:=nf [i0 1,i0 0,r 20,i0 5,i0 0,r 27,i0 7,i0 0,r 40]
def o28:Obj:=⟨.type "type",none,.cls ⟨"WardError",[.type "ValueError"],zad,30,"WardError",true,[],[r 44],false,none,false⟩,zaa⟩
def o29:=tu [r 31]
def o30:=zab
def o31 (P:Params):Obj:=⟨.type "dict",none,.dict #[en P "__module__" 221 zac,en P "__qualname__" 223 (.str "NoName" 222),en P "__firstlineno__" 225 (.int 7 224),en P "__static_attributes__" 226 (r 42)] 4,#[]⟩
def o32:=tu []
def o33:=nf []
def o34:=cv "NoName" 216 "NoName" 217 218 7 0 0 0 0 38 181 39 219 220
def o35:=fm 40 3 37 "roomward.errors" 194 0
def o36:=tu []
def o37 (P:Params):Obj:=⟨.type "dict",none,.dict #[en P "__module__" 221 zac,en P "__firstlineno__" 225 (.int 7 224),en P "__static_attributes__" 226 (r 42),en P "__doc__" 227 .none] 2,#[]⟩
def o38:Obj:=⟨.type "type",none,.cls ⟨"NoName",[r 31],[r 44,r 31,.type "ValueError",.type "Exception",.type "BaseException",.type "object"],43,"NoName",true,[],[],false,none,false⟩,#[(some (r 35)),none,(some (.str "NoName" 214)),(some (.str "NoName" 222)),zag,zaj]⟩
def o39:Obj:=⟨.type "super",none,.fields #[r 44,r 44,r 44],#[]⟩
def o40:Obj:=⟨.type "builtin_function_or_method",none,.fields #[.builtin "object.__init_subclass__",r 44],#[]⟩
def T2 (P:Params):BT:=ns (T1 P) [(3,o26 P),(12,o27),(31,o28),(35,o29),(36,o30),(37,o31 P),(38,o32),(39,o33),(40,o34),(41,o35),(42,o36),(43,o37 P),(44,o38),(45,o39),(46,o40)]
theorem pc2:Hd.Pc pp env T1 35 214 T2 47 230 214 [tp 3] ⟨5,0,6,8⟩ ⟨7,0,8,8⟩:=by
 intro w
 kernel_rfl
def g2 (P:Params):List DictEntry:=g1 P++[en P "NoDeed" 245 (.ref 56)]
def o41 (P:Params):Obj:=⟨.type "dict",none,.dict ⟨en P "__name__" 165 zac::g2 P⟩ 13,#[]⟩
def o42:=nf [i0 1,i0 0,r 20,i0 5,i0 0,r 27,i0 7,i0 0,r 40,i0 9,i0 0,r 52]
def o43:Obj:=⟨.type "type",none,.cls ⟨"WardError",[.type "ValueError"],zad,30,"WardError",true,[],[r 44,r 56],false,none,false⟩,zaa⟩
def o44:=tu [r 31]
def o45:=zab
def o46 (P:Params):Obj:=⟨.type "dict",none,.dict #[en P "__module__" 237 zac,en P "__qualname__" 239 (.str "NoDeed" 238),en P "__firstlineno__" 241 (.int 9 240),en P "__static_attributes__" 242 (r 54)] 4,#[]⟩
def o47:=tu []
def o48:=nf []
def o49:=cv "NoDeed" 232 "NoDeed" 233 234 9 0 0 0 0 50 181 51 235 236
def o50:=fm 52 3 49 "roomward.errors" 194 0
def o51:=tu []
def o52 (P:Params):Obj:=⟨.type "dict",none,.dict #[en P "__module__" 237 zac,en P "__firstlineno__" 241 (.int 9 240),en P "__static_attributes__" 242 (r 54),en P "__doc__" 243 .none] 2,#[]⟩
def o53:Obj:=⟨.type "type",none,.cls ⟨"NoDeed",[r 31],[r 56,r 31,.type "ValueError",.type "Exception",.type "BaseException",.type "object"],55,"NoDeed",true,[],[],false,none,false⟩,#[(some (r 47)),none,(some (.str "NoDeed" 230)),(some (.str "NoDeed" 238)),zag,zaj]⟩
def o54:Obj:=⟨.type "super",none,.fields #[r 56,r 56,r 56],#[]⟩
def o55:Obj:=⟨.type "builtin_function_or_method",none,.fields #[.builtin "object.__init_subclass__",r 56],#[]⟩
def T3 (P:Params):BT:=ns (T2 P) [(3,o41 P),(12,o42),(31,o43),(47,o44),(48,o45),(49,o46 P),(50,o47),(51,o48),(52,o49),(53,o50),(54,o51),(55,o52 P),(56,o53),(57,o54),(58,o55)]
theorem pc3:Hd.Pc pp env T2 47 230 T3 59 246 214 [tp 4] ⟨7,0,8,8⟩ ⟨9,0,10,8⟩:=by
 intro w
 kernel_rfl
def g3 (P:Params):List DictEntry:=g2 P++[en P "NoRoom" 261 (.ref 68)]
def o56 (P:Params):Obj:=⟨.type "dict",none,.dict ⟨en P "__name__" 165 zac::g3 P⟩ 14,#[]⟩
def o57:=nf [i0 1,i0 0,r 20,i0 5,i0 0,r 27,i0 7,i0 0,r 40,i0 9,i0 0,r 52,i0 11,i0 0,r 64]
def o58:Obj:=⟨.type "type",none,.cls ⟨"WardError",[.type "ValueError"],zad,30,"WardError",true,[],[r 44,r 56,r 68],false,none,false⟩,zaa⟩
def o59:=tu [r 31]
def o60:=zab
def o61 (P:Params):Obj:=⟨.type "dict",none,.dict #[en P "__module__" 253 zac,en P "__qualname__" 255 (.str "NoRoom" 254),en P "__firstlineno__" 257 (.int 11 256),en P "__static_attributes__" 258 (r 66)] 4,#[]⟩
def o62:=tu []
def o63:=nf []
def o64:=cv "NoRoom" 248 "NoRoom" 249 250 11 0 0 0 0 62 181 63 251 252
def o65:=fm 64 3 61 "roomward.errors" 194 0
def o66:=tu []
def o67 (P:Params):Obj:=⟨.type "dict",none,.dict #[en P "__module__" 253 zac,en P "__firstlineno__" 257 (.int 11 256),en P "__static_attributes__" 258 (r 66),en P "__doc__" 259 .none] 2,#[]⟩
def o68:Obj:=⟨.type "type",none,.cls ⟨"NoRoom",[r 31],[r 68,r 31,.type "ValueError",.type "Exception",.type "BaseException",.type "object"],67,"NoRoom",true,[],[],false,none,false⟩,#[(some (r 59)),none,(some (.str "NoRoom" 246)),(some (.str "NoRoom" 254)),zag,zaj]⟩
def o69:Obj:=⟨.type "super",none,.fields #[r 68,r 68,r 68],#[]⟩
def o70:Obj:=⟨.type "builtin_function_or_method",none,.fields #[.builtin "object.__init_subclass__",r 68],#[]⟩
def T4 (P:Params):BT:=ns (T3 P) [(3,o56 P),(12,o57),(31,o58),(59,o59),(60,o60),(61,o61 P),(62,o62),(63,o63),(64,o64),(65,o65),(66,o66),(67,o67 P),(68,o68),(69,o69),(70,o70)]
theorem pc4:Hd.Pc pp env T3 59 246 T4 71 262 214 [tp 5] ⟨9,0,10,8⟩ ⟨11,0,12,8⟩:=by
 intro w
 kernel_rfl
def g4 (P:Params):List DictEntry:=g3 P++[en P "TwiceTold" 277 (.ref 80)]
def o71 (P:Params):Obj:=⟨.type "dict",none,.dict ⟨en P "__name__" 165 zac::g4 P⟩ 15,#[]⟩
def o72:=nf [i0 1,i0 0,r 20,i0 5,i0 0,r 27,i0 7,i0 0,r 40,i0 9,i0 0,r 52,i0 11,i0 0,r 64,i0 13,i0 0,r 76]
def o73:Obj:=⟨.type "type",none,.cls ⟨"WardError",[.type "ValueError"],zad,30,"WardError",true,[],[r 44,r 56,r 68,r 80],false,none,false⟩,zaa⟩
def o74:=tu [r 31]
def o75:=zab
def o76 (P:Params):Obj:=⟨.type "dict",none,.dict #[en P "__module__" 269 zac,en P "__qualname__" 271 (.str "TwiceTold" 270),en P "__firstlineno__" 273 (.int 13 272),en P "__static_attributes__" 274 (r 78)] 4,#[]⟩
def o77:=tu []
def o78:=nf []
def o79:=cv "TwiceTold" 264 "TwiceTold" 265 266 13 0 0 0 0 74 181 75 267 268
def o80:=fm 76 3 73 "roomward.errors" 194 0
def o81:=tu []
def o82 (P:Params):Obj:=⟨.type "dict",none,.dict #[en P "__module__" 269 zac,en P "__firstlineno__" 273 (.int 13 272),en P "__static_attributes__" 274 (r 78),en P "__doc__" 275 .none] 2,#[]⟩
def o83:Obj:=⟨.type "type",none,.cls ⟨"TwiceTold",[r 31],[r 80,r 31,.type "ValueError",.type "Exception",.type "BaseException",.type "object"],79,"TwiceTold",true,[],[],false,none,false⟩,#[(some (r 71)),none,(some (.str "TwiceTold" 262)),(some (.str "TwiceTold" 270)),zag,zaj]⟩
def o84:Obj:=⟨.type "super",none,.fields #[r 80,r 80,r 80],#[]⟩
def o85:Obj:=⟨.type "builtin_function_or_method",none,.fields #[.builtin "object.__init_subclass__",r 80],#[]⟩
def T5 (P:Params):BT:=ns (T4 P) [(3,o71 P),(12,o72),(31,o73),(71,o74),(72,o75),(73,o76 P),(74,o77),(75,o78),(76,o79),(77,o80),(78,o81),(79,o82 P),(80,o83),(81,o84),(82,o85)]
theorem pc5:Hd.Pc pp env T4 71 262 T5 83 278 214 [tp 6] ⟨11,0,12,8⟩ ⟨13,0,14,8⟩:=by
 intro w
 kernel_rfl
def g5 (P:Params):List DictEntry:=g4 P++[en P "TooMany" 293 (.ref 92)]
def o86 (P:Params):Obj:=⟨.type "dict",none,.dict ⟨en P "__name__" 165 zac::g5 P⟩ 16,#[]⟩
def o87:=nf [i0 1,i0 0,r 20,i0 5,i0 0,r 27,i0 7,i0 0,r 40,i0 9,i0 0,r 52,i0 11,i0 0,r 64,i0 13,i0 0,r 76,i0 15,i0 0,r 88]
def o88:Obj:=⟨.type "type",none,.cls ⟨"WardError",[.type "ValueError"],zad,30,"WardError",true,[],[r 44,r 56,r 68,r 80,r 92],false,none,false⟩,zaa⟩
def o89:=tu [r 31]
def o90:=zab
def o91 (P:Params):Obj:=⟨.type "dict",none,.dict #[en P "__module__" 285 zac,en P "__qualname__" 287 (.str "TooMany" 286),en P "__firstlineno__" 289 (.int 15 288),en P "__static_attributes__" 290 (r 90)] 4,#[]⟩
def o92:=tu []
def o93:=nf []
def o94:=cv "TooMany" 280 "TooMany" 281 282 15 0 0 0 0 86 181 87 283 284
def o95:=fm 88 3 85 "roomward.errors" 194 0
def o96:=tu []
def o97 (P:Params):Obj:=⟨.type "dict",none,.dict #[en P "__module__" 285 zac,en P "__firstlineno__" 289 (.int 15 288),en P "__static_attributes__" 290 (r 90),en P "__doc__" 291 .none] 2,#[]⟩
def o98:Obj:=⟨.type "type",none,.cls ⟨"TooMany",[r 31],[r 92,r 31,.type "ValueError",.type "Exception",.type "BaseException",.type "object"],91,"TooMany",true,[],[],false,none,false⟩,#[(some (r 83)),none,(some (.str "TooMany" 278)),(some (.str "TooMany" 286)),zag,zaj]⟩
def o99:Obj:=⟨.type "super",none,.fields #[r 92,r 92,r 92],#[]⟩
def o100:Obj:=⟨.type "builtin_function_or_method",none,.fields #[.builtin "object.__init_subclass__",r 92],#[]⟩
def T6 (P:Params):BT:=ns (T5 P) [(3,o86 P),(12,o87),(31,o88),(83,o89),(84,o90),(85,o91 P),(86,o92),(87,o93),(88,o94),(89,o95),(90,o96),(91,o97 P),(92,o98),(93,o99),(94,o100)]
theorem pc6:Hd.Pc pp env T5 83 278 T6 95 294 214 [tp 7] ⟨13,0,14,8⟩ ⟨15,0,16,8⟩:=by
 intro w
 kernel_rfl
def g6 (P:Params):List DictEntry:=g5 P++[en P "NoRule" 309 (.ref 104)]
def o101 (P:Params):Obj:=⟨.type "dict",none,.dict ⟨en P "__name__" 165 zac::g6 P⟩ 17,#[]⟩
def o102:=nf [i0 1,i0 0,r 20,i0 5,i0 0,r 27,i0 7,i0 0,r 40,i0 9,i0 0,r 52,i0 11,i0 0,r 64,i0 13,i0 0,r 76,i0 15,i0 0,r 88,i0 17,i0 0,r 100]
def o103:Obj:=⟨.type "type",none,.cls ⟨"WardError",[.type "ValueError"],zad,30,"WardError",true,[],[r 44,r 56,r 68,r 80,r 92,r 104],false,none,false⟩,zaa⟩
def o104:=tu [r 31]
def o105:=zab
def o106 (P:Params):Obj:=⟨.type "dict",none,.dict #[en P "__module__" 301 zac,en P "__qualname__" 303 (.str "NoRule" 302),en P "__firstlineno__" 305 (.int 17 304),en P "__static_attributes__" 306 (r 102)] 4,#[]⟩
def o107:=tu []
def o108:=nf []
def o109:=cv "NoRule" 296 "NoRule" 297 298 17 0 0 0 0 98 181 99 299 300
def o110:=fm 100 3 97 "roomward.errors" 194 0
def o111:=tu []
def o112 (P:Params):Obj:=⟨.type "dict",none,.dict #[en P "__module__" 301 zac,en P "__firstlineno__" 305 (.int 17 304),en P "__static_attributes__" 306 (r 102),en P "__doc__" 307 .none] 2,#[]⟩
def o113:Obj:=⟨.type "type",none,.cls ⟨"NoRule",[r 31],[r 104,r 31,.type "ValueError",.type "Exception",.type "BaseException",.type "object"],103,"NoRule",true,[],[],false,none,false⟩,#[(some (r 95)),none,(some (.str "NoRule" 294)),(some (.str "NoRule" 302)),zag,zaj]⟩
def o114:Obj:=⟨.type "super",none,.fields #[r 104,r 104,r 104],#[]⟩
def o115:Obj:=⟨.type "builtin_function_or_method",none,.fields #[.builtin "object.__init_subclass__",r 104],#[]⟩
def T7 (P:Params):BT:=ns (T6 P) [(3,o101 P),(12,o102),(31,o103),(95,o104),(96,o105),(97,o106 P),(98,o107),(99,o108),(100,o109),(101,o110),(102,o111),(103,o112 P),(104,o113),(105,o114),(106,o115)]
theorem pc7:Hd.Pc pp env T6 95 294 T7 107 310 214 [tp 8] ⟨15,0,16,8⟩ ⟨17,0,18,8⟩:=by
 intro w
 kernel_rfl
def g7 (P:Params):List DictEntry:=g6 P++[en P "NoRow" 325 (.ref 116)]
def o116 (P:Params):Obj:=⟨.type "dict",none,.dict ⟨en P "__name__" 165 zac::g7 P⟩ 18,#[]⟩
def o117:=nf [i0 1,i0 0,r 20,i0 5,i0 0,r 27,i0 7,i0 0,r 40,i0 9,i0 0,r 52,i0 11,i0 0,r 64,i0 13,i0 0,r 76,i0 15,i0 0,r 88,i0 17,i0 0,r 100,i0 19,i0 0,r 112]
def o118:Obj:=⟨.type "type",none,.cls ⟨"WardError",[.type "ValueError"],zad,30,"WardError",true,[],[r 44,r 56,r 68,r 80,r 92,r 104,r 116],false,none,false⟩,zaa⟩
def o119:=tu [r 31]
def o120:=zab
def o121 (P:Params):Obj:=⟨.type "dict",none,.dict #[en P "__module__" 317 zac,en P "__qualname__" 319 (.str "NoRow" 318),en P "__firstlineno__" 321 (.int 19 320),en P "__static_attributes__" 322 (r 114)] 4,#[]⟩
def o122:=tu []
def o123:=nf []
def o124:=cv "NoRow" 312 "NoRow" 313 314 19 0 0 0 0 110 181 111 315 316
def o125:=fm 112 3 109 "roomward.errors" 194 0
def o126:=tu []
def o127 (P:Params):Obj:=⟨.type "dict",none,.dict #[en P "__module__" 317 zac,en P "__firstlineno__" 321 (.int 19 320),en P "__static_attributes__" 322 (r 114),en P "__doc__" 323 .none] 2,#[]⟩
def o128:Obj:=⟨.type "type",none,.cls ⟨"NoRow",[r 31],[r 116,r 31,.type "ValueError",.type "Exception",.type "BaseException",.type "object"],115,"NoRow",true,[],[],false,none,false⟩,#[(some (r 107)),none,(some (.str "NoRow" 310)),(some (.str "NoRow" 318)),zag,zaj]⟩
def o129:Obj:=⟨.type "super",none,.fields #[r 116,r 116,r 116],#[]⟩
def o130:Obj:=⟨.type "builtin_function_or_method",none,.fields #[.builtin "object.__init_subclass__",r 116],#[]⟩
def T8 (P:Params):BT:=ns (T7 P) [(3,o116 P),(12,o117),(31,o118),(107,o119),(108,o120),(109,o121 P),(110,o122),(111,o123),(112,o124),(113,o125),(114,o126),(115,o127 P),(116,o128),(117,o129),(118,o130)]
theorem pc8:Hd.Pc pp env T7 107 310 T8 119 326 214 [tp 9] ⟨17,0,18,8⟩ ⟨19,0,20,8⟩:=by
 intro w
 kernel_rfl
def g8 (P:Params):List DictEntry:=g7 P++[en P "NoHold" 341 (.ref 128)]
def o131 (P:Params):Obj:=⟨.type "dict",none,.dict ⟨en P "__name__" 165 zac::g8 P⟩ 19,#[]⟩
def o132:=nf [i0 1,i0 0,r 20,i0 5,i0 0,r 27,i0 7,i0 0,r 40,i0 9,i0 0,r 52,i0 11,i0 0,r 64,i0 13,i0 0,r 76,i0 15,i0 0,r 88,i0 17,i0 0,r 100,i0 19,i0 0,r 112,i0 21,i0 0,r 124]
def o133:Obj:=⟨.type "type",none,.cls ⟨"WardError",[.type "ValueError"],zad,30,"WardError",true,[],[r 44,r 56,r 68,r 80,r 92,r 104,r 116,r 128],false,none,false⟩,zaa⟩
def o134:=tu [r 31]
def o135:=zab
def o136 (P:Params):Obj:=⟨.type "dict",none,.dict #[en P "__module__" 333 zac,en P "__qualname__" 335 (.str "NoHold" 334),en P "__firstlineno__" 337 (.int 21 336),en P "__static_attributes__" 338 (r 126)] 4,#[]⟩
def o137:=tu []
def o138:=nf []
def o139:=cv "NoHold" 328 "NoHold" 329 330 21 0 0 0 0 122 181 123 331 332
def o140:=fm 124 3 121 "roomward.errors" 194 0
def o141:=tu []
def o142 (P:Params):Obj:=⟨.type "dict",none,.dict #[en P "__module__" 333 zac,en P "__firstlineno__" 337 (.int 21 336),en P "__static_attributes__" 338 (r 126),en P "__doc__" 339 .none] 2,#[]⟩
def o143:Obj:=⟨.type "type",none,.cls ⟨"NoHold",[r 31],[r 128,r 31,.type "ValueError",.type "Exception",.type "BaseException",.type "object"],127,"NoHold",true,[],[],false,none,false⟩,#[(some (r 119)),none,(some (.str "NoHold" 326)),(some (.str "NoHold" 334)),zag,zaj]⟩
def o144:Obj:=⟨.type "super",none,.fields #[r 128,r 128,r 128],#[]⟩
def o145:Obj:=⟨.type "builtin_function_or_method",none,.fields #[.builtin "object.__init_subclass__",r 128],#[]⟩
def T9 (P:Params):BT:=ns (T8 P) [(3,o131 P),(12,o132),(31,o133),(119,o134),(120,o135),(121,o136 P),(122,o137),(123,o138),(124,o139),(125,o140),(126,o141),(127,o142 P),(128,o143),(129,o144),(130,o145)]
theorem pc9:Hd.Pc pp env T8 119 326 T9 131 342 214 [tp 10] ⟨19,0,20,8⟩ ⟨21,0,22,8⟩:=by
 intro w
 kernel_rfl
def g9 (P:Params):List DictEntry:=g8 P++[en P "NoHolder" 357 (.ref 140)]
def o146 (P:Params):Obj:=⟨.type "dict",none,.dict ⟨en P "__name__" 165 zac::g9 P⟩ 20,#[]⟩
def o147:=nf [i0 1,i0 0,r 20,i0 5,i0 0,r 27,i0 7,i0 0,r 40,i0 9,i0 0,r 52,i0 11,i0 0,r 64,i0 13,i0 0,r 76,i0 15,i0 0,r 88,i0 17,i0 0,r 100,i0 19,i0 0,r 112,i0 21,i0 0,r 124,i0 23,i0 0,r 136]
def o148:Obj:=⟨.type "type",none,.cls ⟨"WardError",[.type "ValueError"],zad,30,"WardError",true,[],[r 44,r 56,r 68,r 80,r 92,r 104,r 116,r 128,r 140],false,none,false⟩,zaa⟩
def o149:=tu [r 31]
def o150:=zab
def o151 (P:Params):Obj:=⟨.type "dict",none,.dict #[en P "__module__" 349 zac,en P "__qualname__" 351 (.str "NoHolder" 350),en P "__firstlineno__" 353 (.int 23 352),en P "__static_attributes__" 354 (r 138)] 4,#[]⟩
def o152:=tu []
def o153:=nf []
def o154:=cv "NoHolder" 344 "NoHolder" 345 346 23 0 0 0 0 134 181 135 347 348
def o155:=fm 136 3 133 "roomward.errors" 194 0
def o156:=tu []
def o157 (P:Params):Obj:=⟨.type "dict",none,.dict #[en P "__module__" 349 zac,en P "__firstlineno__" 353 (.int 23 352),en P "__static_attributes__" 354 (r 138),en P "__doc__" 355 .none] 2,#[]⟩
def o158:Obj:=⟨.type "type",none,.cls ⟨"NoHolder",[r 31],[r 140,r 31,.type "ValueError",.type "Exception",.type "BaseException",.type "object"],139,"NoHolder",true,[],[],false,none,false⟩,#[(some (r 131)),none,(some (.str "NoHolder" 342)),(some (.str "NoHolder" 350)),zag,zaj]⟩
def o159:Obj:=⟨.type "super",none,.fields #[r 140,r 140,r 140],#[]⟩
def o160:Obj:=⟨.type "builtin_function_or_method",none,.fields #[.builtin "object.__init_subclass__",r 140],#[]⟩
def T10 (P:Params):BT:=ns (T9 P) [(3,o146 P),(12,o147),(31,o148),(131,o149),(132,o150),(133,o151 P),(134,o152),(135,o153),(136,o154),(137,o155),(138,o156),(139,o157 P),(140,o158),(141,o159),(142,o160)]
theorem pc10:Hd.Pc pp env T9 131 342 T10 143 358 214 [tp 11] ⟨21,0,22,8⟩ ⟨23,0,24,8⟩:=by
 intro w
 kernel_rfl
def g10 (P:Params):List DictEntry:=g9 P++[en P "FreeDeed" 373 (.ref 152)]
def o161 (P:Params):Obj:=⟨.type "dict",none,.dict ⟨en P "__name__" 165 zac::g10 P⟩ 21,#[]⟩
def o162:=nf [i0 1,i0 0,r 20,i0 5,i0 0,r 27,i0 7,i0 0,r 40,i0 9,i0 0,r 52,i0 11,i0 0,r 64,i0 13,i0 0,r 76,i0 15,i0 0,r 88,i0 17,i0 0,r 100,i0 19,i0 0,r 112,i0 21,i0 0,r 124,i0 23,i0 0,r 136,i0 25,i0 0,r 148]
def o163:Obj:=⟨.type "type",none,.cls ⟨"WardError",[.type "ValueError"],zad,30,"WardError",true,[],[r 44,r 56,r 68,r 80,r 92,r 104,r 116,r 128,r 140,r 152],false,none,false⟩,zaa⟩
def o164:=tu [r 31]
def o165:=zab
def o166 (P:Params):Obj:=⟨.type "dict",none,.dict #[en P "__module__" 365 zac,en P "__qualname__" 367 (.str "FreeDeed" 366),en P "__firstlineno__" 369 (.int 25 368),en P "__static_attributes__" 370 (r 150)] 4,#[]⟩
def o167:=tu []
def o168:=nf []
def o169:=cv "FreeDeed" 360 "FreeDeed" 361 362 25 0 0 0 0 146 181 147 363 364
def o170:=fm 148 3 145 "roomward.errors" 194 0
def o171:=tu []
def o172 (P:Params):Obj:=⟨.type "dict",none,.dict #[en P "__module__" 365 zac,en P "__firstlineno__" 369 (.int 25 368),en P "__static_attributes__" 370 (r 150),en P "__doc__" 371 .none] 2,#[]⟩
def o173:Obj:=⟨.type "type",none,.cls ⟨"FreeDeed",[r 31],[r 152,r 31,.type "ValueError",.type "Exception",.type "BaseException",.type "object"],151,"FreeDeed",true,[],[],false,none,false⟩,#[(some (r 143)),none,(some (.str "FreeDeed" 358)),(some (.str "FreeDeed" 366)),zag,zaj]⟩
def o174:Obj:=⟨.type "super",none,.fields #[r 152,r 152,r 152],#[]⟩
def o175:Obj:=⟨.type "builtin_function_or_method",none,.fields #[.builtin "object.__init_subclass__",r 152],#[]⟩
def T11 (P:Params):BT:=ns (T10 P) [(3,o161 P),(12,o162),(31,o163),(143,o164),(144,o165),(145,o166 P),(146,o167),(147,o168),(148,o169),(149,o170),(150,o171),(151,o172 P),(152,o173),(153,o174),(154,o175)]
theorem pc11:Hd.Pc pp env T10 143 358 T11 155 374 214 [tp 12] ⟨23,0,24,8⟩ ⟨25,0,26,8⟩:=by
 intro w
 kernel_rfl
def g11 (P:Params):List DictEntry:=g10 P++[en P "NotNow" 389 (.ref 164)]
def o176 (P:Params):Obj:=⟨.type "dict",none,.dict ⟨en P "__name__" 165 zac::g11 P⟩ 22,#[]⟩
def o177:=nf [i0 1,i0 0,r 20,i0 5,i0 0,r 27,i0 7,i0 0,r 40,i0 9,i0 0,r 52,i0 11,i0 0,r 64,i0 13,i0 0,r 76,i0 15,i0 0,r 88,i0 17,i0 0,r 100,i0 19,i0 0,r 112,i0 21,i0 0,r 124,i0 23,i0 0,r 136,i0 25,i0 0,r 148,i0 27,i0 0,r 160]
def o178:Obj:=⟨.type "type",none,.cls ⟨"WardError",[.type "ValueError"],zad,30,"WardError",true,[],[r 44,r 56,r 68,r 80,r 92,r 104,r 116,r 128,r 140,r 152,r 164],false,none,false⟩,zaa⟩
def o179:=tu [r 31]
def o180:=zab
def o181 (P:Params):Obj:=⟨.type "dict",none,.dict #[en P "__module__" 381 zac,en P "__qualname__" 383 (.str "NotNow" 382),en P "__firstlineno__" 385 (.int 27 384),en P "__static_attributes__" 386 (r 162)] 4,#[]⟩
def o182:=tu []
def o183:=nf []
def o184:=cv "NotNow" 376 "NotNow" 377 378 27 0 0 0 0 158 181 159 379 380
def o185:=fm 160 3 157 "roomward.errors" 194 0
def o186:=tu []
def o187 (P:Params):Obj:=⟨.type "dict",none,.dict #[en P "__module__" 381 zac,en P "__firstlineno__" 385 (.int 27 384),en P "__static_attributes__" 386 (r 162),en P "__doc__" 387 .none] 2,#[]⟩
def o188:Obj:=⟨.type "type",none,.cls ⟨"NotNow",[r 31],[r 164,r 31,.type "ValueError",.type "Exception",.type "BaseException",.type "object"],163,"NotNow",true,[],[],false,none,false⟩,#[(some (r 155)),none,(some (.str "NotNow" 374)),(some (.str "NotNow" 382)),zag,zaj]⟩
def o189:Obj:=⟨.type "super",none,.fields #[r 164,r 164,r 164],#[]⟩
def o190:Obj:=⟨.type "builtin_function_or_method",none,.fields #[.builtin "object.__init_subclass__",r 164],#[]⟩
def T12 (P:Params):BT:=ns (T11 P) [(3,o176 P),(12,o177),(31,o178),(155,o179),(156,o180),(157,o181 P),(158,o182),(159,o183),(160,o184),(161,o185),(162,o186),(163,o187 P),(164,o188),(165,o189),(166,o190)]
theorem pc12:Hd.Pc pp env T11 155 374 T12 167 390 214 [tp 13] ⟨25,0,26,8⟩ ⟨27,0,28,8⟩:=by
 intro w
 kernel_rfl
def g12 (P:Params):List DictEntry:=g11 P++[en P "NoWarden" 416 (.ref 183)]
def o191 (P:Params):Obj:=⟨.type "dict",none,.dict ⟨en P "__name__" 165 zac::g12 P⟩ 23,#[]⟩
def o192:=nf [i0 1,i0 0,r 20,i0 5,i0 0,r 27,i0 7,i0 0,r 40,i0 9,i0 0,r 52,i0 11,i0 0,r 64,i0 13,i0 0,r 76,i0 15,i0 0,r 88,i0 17,i0 0,r 100,i0 19,i0 0,r 112,i0 21,i0 0,r 124,i0 23,i0 0,r 136,i0 25,i0 0,r 148,i0 27,i0 0,r 160,i0 29,i0 0,r 172]
def o193:Obj:=⟨.type "type",none,.cls ⟨"WardError",[.type "ValueError"],zad,30,"WardError",true,[],[r 44,r 56,r 68,r 80,r 92,r 104,r 116,r 128,r 140,r 152,r 164,r 183],false,none,false⟩,zaa⟩
def o194:=tu [r 31]
def o195:=zab
def o196 (P:Params):Obj:=⟨.type "dict",none,.dict #[en P "__module__" 397 zac,en P "__qualname__" 399 (.str "NoWarden" 398),en P "__firstlineno__" 401 (.int 29 400),en P "__init__" 410 (r 180),en P "__static_attributes__" 413 (r 181)] 5,#[]⟩
def o197:=tu []
def o198:=nf [i0 31,i0 4,r 179]
def o199:=cv "NoWarden" 392 "NoWarden" 393 394 29 0 0 0 0 170 181 171 395 396
def o200:=fm 172 3 169 "roomward.errors" 194 0
def o201:=tu []
def o202:=nf []
def o203:=tu [.str "self" 405,.str "word" 406,.str "row" 407]
def o204:=tu []
def o205:=nv "__init__" "NoWarden.__init__" (aE (tp 14) 0) 0 .none .none
def o206:=co [.str "__init__" 402,.str "NoWarden.__init__" 403,cp 404,i0 31,i0 3,i0 0,i0 0,i0 3,r 174,.bool true,i0 181,r 175,.none,r 176,r 177,r 178,i0 408,i0 31,cp 409]
def o207:=fv "__init__" "NoWarden.__init__" (aE (tp 14) 0) 3 zac (r 179)
def o208:=tu [.str "row" 411,.str "word" 412]
def o209 (P:Params):Obj:=⟨.type "dict",none,.dict #[en P "__module__" 397 zac,en P "__firstlineno__" 401 (.int 29 400),en P "__init__" 410 (r 180),en P "__static_attributes__" 413 (r 181),en P "__doc__" 414 .none] 2,#[]⟩
def o210:Obj:=⟨.type "type",none,.cls ⟨"NoWarden",[r 31],[r 183,r 31,.type "ValueError",.type "Exception",.type "BaseException",.type "object"],182,"NoWarden",true,[],[],false,none,false⟩,#[(some (r 167)),none,(some (.str "NoWarden" 390)),(some (.str "NoWarden" 398)),zag,zaj]⟩
def o211:Obj:=⟨.type "super",none,.fields #[r 183,r 183,r 183],#[]⟩
def o212:Obj:=⟨.type "builtin_function_or_method",none,.fields #[.builtin "object.__init_subclass__",r 183],#[]⟩
def T13 (P:Params):BT:=ns (T12 P) [(3,o191 P),(12,o192),(31,o193),(167,o194),(168,o195),(169,o196 P),(170,o197),(171,o198),(172,o199),(173,o200),(174,o201),(175,o202),(176,o203),(177,o204),(178,o205),(179,o206),(180,o207),(181,o208),(182,o209 P),(183,o210),(184,o211),(185,o212)]
theorem pc13:Hd.Pc pp env T12 167 390 T13 186 417 248 [tp 14] ⟨27,0,28,8⟩ ⟨29,0,34,28⟩:=by
 intro w
 kernel_rfl
def g13 (P:Params):List DictEntry:=g12 P++[en P "NoText" 441 (.ref 202)]
def o213 (P:Params):Obj:=⟨.type "dict",none,.dict ⟨en P "__name__" 165 zac::g13 P⟩ 24,#[]⟩
def o214:=nf [i0 1,i0 0,r 20,i0 5,i0 0,r 27,i0 7,i0 0,r 40,i0 9,i0 0,r 52,i0 11,i0 0,r 64,i0 13,i0 0,r 76,i0 15,i0 0,r 88,i0 17,i0 0,r 100,i0 19,i0 0,r 112,i0 21,i0 0,r 124,i0 23,i0 0,r 136,i0 25,i0 0,r 148,i0 27,i0 0,r 160,i0 29,i0 0,r 172,i0 35,i0 0,r 191]
def o215:Obj:=⟨.type "type",none,.cls ⟨"WardError",[.type "ValueError"],zad,30,"WardError",true,[],[r 44,r 56,r 68,r 80,r 92,r 104,r 116,r 128,r 140,r 152,r 164,r 183,r 202],false,none,false⟩,zaa⟩
def o216:=tu [r 31]
def o217:=zab
def o218 (P:Params):Obj:=⟨.type "dict",none,.dict #[en P "__module__" 424 zac,en P "__qualname__" 426 (.str "NoText" 425),en P "__firstlineno__" 428 (.int 35 427),en P "__init__" 436 (r 199),en P "__static_attributes__" 438 (r 200)] 5,#[]⟩
def o219:=tu []
def o220:=nf [i0 37,i0 4,r 198]
def o221:=cv "NoText" 419 "NoText" 420 421 35 0 0 0 0 189 181 190 422 423
def o222:=fm 191 3 188 "roomward.errors" 194 0
def o223:=tu []
def o224:=nf []
def o225:=tu [.str "self" 432,.str "row" 433]
def o226:=tu []
def o227:=nv "__init__" "NoText.__init__" (aE (tp 15) 0) 0 .none .none
def o228:=co [.str "__init__" 429,.str "NoText.__init__" 430,cp 431,i0 37,i0 2,i0 0,i0 0,i0 3,r 193,.bool true,i0 181,r 194,.none,r 195,r 196,r 197,i0 434,i0 37,cp 435]
def o229:=fv "__init__" "NoText.__init__" (aE (tp 15) 0) 3 zac (r 198)
def o230:=tu [.str "row" 437]
def o231 (P:Params):Obj:=⟨.type "dict",none,.dict #[en P "__module__" 424 zac,en P "__firstlineno__" 428 (.int 35 427),en P "__init__" 436 (r 199),en P "__static_attributes__" 438 (r 200),en P "__doc__" 439 .none] 2,#[]⟩
def o232:Obj:=⟨.type "type",none,.cls ⟨"NoText",[r 31],[r 202,r 31,.type "ValueError",.type "Exception",.type "BaseException",.type "object"],201,"NoText",true,[],[],false,none,false⟩,#[(some (r 186)),none,(some (.str "NoText" 417)),(some (.str "NoText" 425)),zag,zaj]⟩
def o233:Obj:=⟨.type "super",none,.fields #[r 202,r 202,r 202],#[]⟩
def o234:Obj:=⟨.type "builtin_function_or_method",none,.fields #[.builtin "object.__init_subclass__",r 202],#[]⟩
def T14 (P:Params):BT:=ns (T13 P) [(3,o213 P),(12,o214),(31,o215),(186,o216),(187,o217),(188,o218 P),(189,o219),(190,o220),(191,o221),(192,o222),(193,o223),(194,o224),(195,o225),(196,o226),(197,o227),(198,o228),(199,o229),(200,o230),(201,o231 P),(202,o232),(203,o233),(204,o234)]
theorem pc14:Hd.Pc pp env T13 186 417 T14 205 442 246 [tp 15] ⟨29,0,34,28⟩ ⟨35,0,38,22⟩:=by
 intro w
 kernel_rfl
def g14 (P:Params):List DictEntry:=g13 P++[en P "NoBook" 466 (.ref 221),en P "rows_to" 483 (.ref 230),en P "come_to" 492 (.ref 237),en P "LETTERS" 496 (.str "abcdefghijklmnopqrstuvwxyz" 495),en P "FIGURES" 498 (.str "0123456789" 497),en P "MOST_SIGNS" 500 (.int 8 499),en P "MOST_DEEDS" 502 (.int 12 501),en P "is_name" 508 (.ref 242)]
def o235 (P:Params):Obj:=⟨.type "dict",none,.dict ⟨en P "__name__" 165 zai::g14 P⟩ 32,#[]⟩
def o236:=nf [i0 1,i0 0,r 20,i0 5,i0 0,r 27,i0 7,i0 0,r 40,i0 9,i0 0,r 52,i0 11,i0 0,r 64,i0 13,i0 0,r 76,i0 15,i0 0,r 88,i0 17,i0 0,r 100,i0 19,i0 0,r 112,i0 21,i0 0,r 124,i0 23,i0 0,r 136,i0 25,i0 0,r 148,i0 27,i0 0,r 160,i0 29,i0 0,r 172,i0 35,i0 0,r 191,i0 39,i0 0,r 210,i0 44,i0 0,r 229,i0 58,i0 0,r 236,i0 65,i0 0,r 241]
def o237:Obj:=⟨.type "type",none,.cls ⟨"WardError",[.type "ValueError"],zad,30,"WardError",true,[],[r 44,r 56,r 68,r 80,r 92,r 104,r 116,r 128,r 140,r 152,r 164,r 183,r 202,r 221],false,none,false⟩,zaa⟩
def o238:=tu [r 31]
def o239:=zab
def o240 (P:Params):Obj:=⟨.type "dict",none,.dict #[en P "__module__" 449 zac,en P "__qualname__" 451 (.str "NoBook" 450),en P "__firstlineno__" 453 (.int 39 452),en P "__init__" 461 (r 218),en P "__static_attributes__" 463 (r 219)] 5,#[]⟩
def o241:=tu []
def o242:=nf [i0 41,i0 4,r 217]
def o243:=cv "NoBook" 444 "NoBook" 445 446 39 0 0 0 0 208 181 209 447 448
def o244:=fm 210 3 207 "roomward.errors" 194 0
def o245:=tu []
def o246:=nf []
def o247:=tu [.str "self" 457,.str "row" 458]
def o248:=tu []
def o249:=nv "__init__" "NoBook.__init__" (aE (tp 16) 0) 0 .none .none
def o250:=co [.str "__init__" 454,.str "NoBook.__init__" 455,cp 456,i0 41,i0 2,i0 0,i0 0,i0 3,r 212,.bool true,i0 181,r 213,.none,r 214,r 215,r 216,i0 459,i0 41,cp 460]
def o251:=fv "__init__" "NoBook.__init__" (aE (tp 16) 0) 3 zac (r 217)
def o252:=tu [.str "row" 462]
def o253 (P:Params):Obj:=⟨.type "dict",none,.dict #[en P "__module__" 449 zac,en P "__firstlineno__" 453 (.int 39 452),en P "__init__" 461 (r 218),en P "__static_attributes__" 463 (r 219),en P "__doc__" 464 .none] 2,#[]⟩
def o254:Obj:=⟨.type "type",none,.cls ⟨"NoBook",[r 31],[r 221,r 31,.type "ValueError",.type "Exception",.type "BaseException",.type "object"],220,"NoBook",true,[],[],false,none,false⟩,#[(some (r 205)),none,(some (.str "NoBook" 442)),(some (.str "NoBook" 450)),zag,zaj]⟩
def o255:Obj:=⟨.type "super",none,.fields #[r 221,r 221,r 221],#[]⟩
def o256:Obj:=⟨.type "builtin_function_or_method",none,.fields #[.builtin "object.__init_subclass__",r 221],#[]⟩
def o257:=tu []
def o258:=nf []
def o259:=tu [.str "begin" 472,.str "doors" 473,.str "most" 474,.str "rows" 475,.str "rooms" 476,.str "place" 477,.str "room" 478,.str "deed" 479,.str "far" 480]
def o260:=tu []
def o261:=nw "rows_to" (tp 18) 0 .none .none
def o262:=co [.str "rows_to" 469,.str "rows_to" 470,cp 471,i0 44,i0 3,i0 0,i0 0,i0 3,r 224,.bool true,i0 181,r 225,.none,r 226,r 227,r 228,i0 481,i0 44,cp 482]
def o263:=fw "rows_to" (tp 18) 3 (.str "roomward.coming" 467) (r 229)
def o264:=tu []
def o265:=nf []
def o266:=tu [.str "begin" 487,.str "doors" 488,.str "most" 489]
def o267:=tu []
def o268:=nw "come_to" (tp 19) 0 .none .none
def o269:=co [.str "come_to" 484,.str "come_to" 485,cp 486,i0 58,i0 3,i0 0,i0 0,i0 3,r 231,.bool true,i0 181,r 232,.none,r 233,r 234,r 235,i0 490,i0 58,cp 491]
def o270:=fw "come_to" (tp 19) 3 (.str "roomward.coming" 467) (r 236)
def o271:=tu []
def o272:=nf []
def o273:=nw "is_name" (tp 25) 0 .none .none
def o274:=co [.str "is_name" 503,.str "is_name" 504,cp 505,i0 65,i0 1,i0 0,i0 0,i0 3,r 238,.bool true,i0 181,r 239,.none,.none,.none,r 240,i0 506,i0 65,cp 507]
def o275:=fw "is_name" (tp 25) 3 zai (r 241)
def T15 (P:Params):BT:=ns (T14 P) [(3,o235 P),(12,o236),(31,o237),(205,o238),(206,o239),(207,o240 P),(208,o241),(209,o242),(210,o243),(211,o244),(212,o245),(213,o246),(214,o247),(215,o248),(216,o249),(217,o250),(218,o251),(219,o252),(220,o253 P),(221,o254),(222,o255),(223,o256),(224,o257),(225,o258),(226,o259),(227,o260),(228,o261),(229,o262),(230,o263),(231,o264),(232,o265),(233,o266),(234,o267),(235,o268),(236,o269),(237,o270),(238,o271),(239,o272),(240,o273),(241,o274),(242,o275)]
theorem pc15:Hd.Pc pp env T14 205 442 T15 243 509 394 [tp 16,tp 17,tp 18,tp 19,tp 20,tp 21,tp 22,tp 23,tp 24,tp 25] ⟨35,0,38,22⟩ ⟨65,0,69,73⟩:=by
 intro w
 kernel_rfl
def g15 (P:Params):List DictEntry:=g14 P++[en P "refuse_names" 517 (.ref 249),en P "weights_of" 527 (.ref 256),en P "marks_of" 536 (.ref 263)]
def o276 (P:Params):Obj:=⟨.type "dict",none,.dict ⟨en P "__name__" 165 zai::g15 P⟩ 35,#[]⟩
def o277:=nf [i0 1,i0 0,r 20,i0 5,i0 0,r 27,i0 7,i0 0,r 40,i0 9,i0 0,r 52,i0 11,i0 0,r 64,i0 13,i0 0,r 76,i0 15,i0 0,r 88,i0 17,i0 0,r 100,i0 19,i0 0,r 112,i0 21,i0 0,r 124,i0 23,i0 0,r 136,i0 25,i0 0,r 148,i0 27,i0 0,r 160,i0 29,i0 0,r 172,i0 35,i0 0,r 191,i0 39,i0 0,r 210,i0 44,i0 0,r 229,i0 58,i0 0,r 236,i0 65,i0 0,r 241,i0 70,i0 0,r 248,i0 80,i0 0,r 255,i0 87,i0 0,r 262]
def o278:=tu []
def o279:=nf []
def o280:=tu [.str "names" 512,.str "ahead" 513,.str "name" 514]
def o281:=tu []
def o282:=nw "refuse_names" (tp 26) 0 .none .none
def o283:=co [.str "refuse_names" 509,.str "refuse_names" 510,cp 511,i0 70,i0 1,i0 0,i0 0,i0 3,r 243,.bool true,i0 181,r 244,.none,r 245,r 246,r 247,i0 515,i0 70,cp 516]
def o284:=fw "refuse_names" (tp 26) 3 zai (r 248)
def o285:=tu []
def o286:=nf []
def o287:=tu [.str "names" 521,.str "weights" 522,.str "weight" 523,.str "name" 524]
def o288:=tu []
def o289:=nw "weights_of" (tp 27) 0 .none .none
def o290:=co [.str "weights_of" 518,.str "weights_of" 519,cp 520,i0 80,i0 1,i0 0,i0 0,i0 3,r 250,.bool true,i0 181,r 251,.none,r 252,r 253,r 254,i0 525,i0 80,cp 526]
def o291:=fw "weights_of" (tp 27) 3 zai (r 255)
def o292:=tu []
def o293:=nf []
def o294:=tu [.str "names" 531,.str "marks" 532,.str "name" 533]
def o295:=tu []
def o296:=nw "marks_of" (tp 28) 0 .none .none
def o297:=co [.str "marks_of" 528,.str "marks_of" 529,cp 530,i0 87,i0 1,i0 0,i0 0,i0 3,r 257,.bool true,i0 181,r 258,.none,r 259,r 260,r 261,i0 534,i0 87,cp 535]
def o298:=fw "marks_of" (tp 28) 3 zai (r 262)
def T16 (P:Params):BT:=ns (T15 P) [(3,o276 P),(12,o277),(243,o278),(244,o279),(245,o280),(246,o281),(247,o282),(248,o283),(249,o284),(250,o285),(251,o286),(252,o287),(253,o288),(254,o289),(255,o290),(256,o291),(257,o292),(258,o293),(259,o294),(260,o295),(261,o296),(262,o297),(263,o298)]
theorem pc16:Hd.Pc pp env T15 243 509 T16 264 537 95 [tp 26,tp 27,tp 28] ⟨65,0,69,73⟩ ⟨87,0,91,16⟩:=by
 intro w
 kernel_rfl
def g16 (P:Params):List DictEntry:=g15 P++[en P "Deeds" 623 (.ref 330)]
def o299 (P:Params):Obj:=⟨.type "dict",none,.dict ⟨en P "__name__" 165 zai::g16 P⟩ 36,#[]⟩
def o300:=nf [i0 1,i0 0,r 20,i0 5,i0 0,r 27,i0 7,i0 0,r 40,i0 9,i0 0,r 52,i0 11,i0 0,r 64,i0 13,i0 0,r 76,i0 15,i0 0,r 88,i0 17,i0 0,r 100,i0 19,i0 0,r 112,i0 21,i0 0,r 124,i0 23,i0 0,r 136,i0 25,i0 0,r 148,i0 27,i0 0,r 160,i0 29,i0 0,r 172,i0 35,i0 0,r 191,i0 39,i0 0,r 210,i0 44,i0 0,r 229,i0 58,i0 0,r 236,i0 65,i0 0,r 241,i0 70,i0 0,r 248,i0 80,i0 0,r 255,i0 87,i0 0,r 262,i0 92,i0 0,r 269]
def o301:=tu []
def o302:=zab
def g17 (P:Params):List DictEntry:=[en P "__qualname__" 546 (.str "Deeds" 545),en P "__firstlineno__" 548 (.int 92 547),en P "__init__" 558 (.ref 278),en P "names" 565 (.ref 285),en P "free" 572 (.ref 292),en P "has" 580 (.ref 299),en P "require" 589 (.ref 306),en P "is_free" 597 (.ref 313),en P "bits" 605 (.ref 320),en P "names_of" 613 (.ref 327),en P "__static_attributes__" 616 (.ref 328)]
def o303 (P:Params):Obj:=⟨.type "dict",none,.dict ⟨en P "__module__" 544 zai::g17 P⟩ 12,#[]⟩
def o304:=tu []
def o305:=nf [i0 94,i0 4,r 277,i0 101,i0 4,r 284,i0 104,i0 4,r 291,i0 107,i0 4,r 298,i0 110,i0 4,r 305,i0 115,i0 4,r 312,i0 118,i0 4,r 319,i0 121,i0 4,r 326]
def o306:=cv "Deeds" 539 "Deeds" 540 541 92 0 0 0 0 267 181 268 542 543
def o307:=fm 269 3 266 "roomward.deeds" 493 0
def o308:=tu [.none]
def o309:=tu []
def o310:=nf []
def o311:=tu [.str "self" 552,.str "names" 553,.str "free" 554,.str "free_names" 555]
def o312:=tu []
def o313:=nv "__init__" "Deeds.__init__" (aE (tp 29) 0) 0 .none .none
def o314:=co [.str "__init__" 549,.str "Deeds.__init__" 550,cp 551,i0 94,i0 3,i0 0,i0 0,i0 3,r 272,.bool true,i0 181,r 273,.none,r 274,r 275,r 276,i0 556,i0 94,cp 557]
def o315:Obj:=fu ⟨"__init__","Deeds.__init__",aJ (aE (tp 29) 0),.stmts (aI (aE (tp 29) 0)),aB (aE (tp 29) 0),3,[],r 271,.none,.none,.str "roomward.deeds" 493,none,r 277,.none,0⟩
def o316:=tu []
def o317:=nf []
def o318:=tu [.str "self" 562]
def o319:=tu []
def o320:=nv "names" "Deeds.names" (aE (tp 29) 1) 0 .none .none
def o321:=co [.str "names" 559,.str "Deeds.names" 560,cp 561,i0 101,i0 1,i0 0,i0 0,i0 3,r 279,.bool true,i0 181,r 280,.none,r 281,r 282,r 283,i0 563,i0 101,cp 564]
def o322:=fv "names" "Deeds.names" (aE (tp 29) 1) 3 zai (r 284)
def o323:=tu []
def o324:=nf []
def o325:=tu [.str "self" 569]
def o326:=tu []
def o327:=nv "free" "Deeds.free" (aE (tp 29) 2) 0 .none .none
def o328:=co [.str "free" 566,.str "Deeds.free" 567,cp 568,i0 104,i0 1,i0 0,i0 0,i0 3,r 286,.bool true,i0 181,r 287,.none,r 288,r 289,r 290,i0 570,i0 104,cp 571]
def o329:=fv "free" "Deeds.free" (aE (tp 29) 2) 3 zai (r 291)
def o330:=tu []
def o331:=nf []
def o332:=tu [.str "self" 576,.str "thing" 577]
def o333:=tu []
def o334:=nv "has" "Deeds.has" (aE (tp 29) 3) 0 .none .none
def o335:=co [.str "has" 573,.str "Deeds.has" 574,cp 575,i0 107,i0 2,i0 0,i0 0,i0 3,r 293,.bool true,i0 181,r 294,.none,r 295,r 296,r 297,i0 578,i0 107,cp 579]
def o336:=fv "has" "Deeds.has" (aE (tp 29) 3) 3 zai (r 298)
def o337:=tu []
def o338:=nf []
def o339:=tu [.str "self" 584,.str "row" 585,.str "deed" 586]
def o340:=tu []
def o341:=nv "require" "Deeds.require" (aE (tp 29) 4) 0 .none .none
def o342:=co [.str "require" 581,.str "Deeds.require" 582,cp 583,i0 110,i0 2,i0 0,i0 0,i0 3,r 300,.bool true,i0 181,r 301,.none,r 302,r 303,r 304,i0 587,i0 110,cp 588]
def o343:=fv "require" "Deeds.require" (aE (tp 29) 4) 3 zai (r 305)
def o344:=tu []
def o345:=nf []
def o346:=tu [.str "self" 593,.str "deed" 594]
def o347:=tu []
def o348:=nv "is_free" "Deeds.is_free" (aE (tp 29) 5) 0 .none .none
def o349:=co [.str "is_free" 590,.str "Deeds.is_free" 591,cp 592,i0 115,i0 2,i0 0,i0 0,i0 3,r 307,.bool true,i0 181,r 308,.none,r 309,r 310,r 311,i0 595,i0 115,cp 596]
def o350:=fv "is_free" "Deeds.is_free" (aE (tp 29) 5) 3 zai (r 312)
def o351:=tu []
def o352:=nf []
def o353:=tu [.str "self" 601,.str "names" 602]
def o354:=tu []
def o355:=nv "bits" "Deeds.bits" (aE (tp 29) 6) 0 .none .none
def o356:=co [.str "bits" 598,.str "Deeds.bits" 599,cp 600,i0 118,i0 2,i0 0,i0 0,i0 3,r 314,.bool true,i0 181,r 315,.none,r 316,r 317,r 318,i0 603,i0 118,cp 604]
def o357:=fv "bits" "Deeds.bits" (aE (tp 29) 6) 3 zai (r 319)
def o358:=tu []
def o359:=nf []
def o360:=tu [.str "self" 609,.str "bits" 610]
def o361:=tu []
def o362:=nv "names_of" "Deeds.names_of" (aE (tp 29) 7) 0 .none .none
def o363:=co [.str "names_of" 606,.str "Deeds.names_of" 607,cp 608,i0 121,i0 2,i0 0,i0 0,i0 3,r 321,.bool true,i0 181,r 322,.none,r 323,r 324,r 325,i0 611,i0 121,cp 612]
def o364:=fv "names_of" "Deeds.names_of" (aE (tp 29) 7) 3 zai (r 326)
def o365:=tu [.str "free_marks" 614,.str "weights" 615]
def g18 (P:Params):List DictEntry:=[en P "__firstlineno__" 548 (.int 92 547),en P "__init__" 558 (.ref 278),en P "names" 565 (.ref 285),en P "free" 572 (.ref 292),en P "has" 580 (.ref 299),en P "require" 589 (.ref 306),en P "is_free" 597 (.ref 313),en P "bits" 605 (.ref 320),en P "names_of" 613 (.ref 327),en P "__static_attributes__" 616 (.ref 328),en P "__dict__" 618 (.ref 331),en P "__weakref__" 620 (.ref 332),en P "__doc__" 621 .none]
def o366 (P:Params):Obj:=⟨.type "dict",none,.dict ⟨en P "__module__" 544 zai::g18 P⟩ 4,#[]⟩
def o367:Obj:=⟨.type "type",none,.cls ⟨"Deeds",[.type "object"],[r 330,.type "object"],329,"Deeds",true,[],[],false,none,false⟩,#[none,none,(some (.str "Deeds" 537)),(some (.str "Deeds" 545)),(some (.builtin "object.__new__")),zaj]⟩
def o368:Obj:=⟨.type "getset_descriptor",none,.fields #[.str "__dict__" 617,r 330,.builtin "function.__dict__",.builtin "function.__dict__#set"],#[]⟩
def o369:Obj:=⟨.type "getset_descriptor",none,.fields #[.str "__weakref__" 619,r 330,.builtin "ExceptionGroup.__weakref__",.none],#[]⟩
def o370:Obj:=⟨.type "super",none,.fields #[r 330,r 330,r 330],#[]⟩
def o371:Obj:=⟨.type "builtin_function_or_method",none,.fields #[.builtin "object.__init_subclass__",r 330],#[]⟩
def T17 (P:Params):BT:=ns (T16 P) [(3,o299 P),(12,o300),(264,o301),(265,o302),(266,o303 P),(267,o304),(268,o305),(269,o306),(270,o307),(271,o308),(272,o309),(273,o310),(274,o311),(275,o312),(276,o313),(277,o314),(278,o315),(279,o316),(280,o317),(281,o318),(282,o319),(283,o320),(284,o321),(285,o322),(286,o323),(287,o324),(288,o325),(289,o326),(290,o327),(291,o328),(292,o329),(293,o330),(294,o331),(295,o332),(296,o333),(297,o334),(298,o335),(299,o336),(300,o337),(301,o338),(302,o339),(303,o340),(304,o341),(305,o342),(306,o343),(307,o344),(308,o345),(309,o346),(310,o347),(311,o348),(312,o349),(313,o350),(314,o351),(315,o352),(316,o353),(317,o354),(318,o355),(319,o356),(320,o357),(321,o358),(322,o359),(323,o360),(324,o361),(325,o362),(326,o363),(327,o364),(328,o365),(329,o366 P),(330,o367),(331,o368),(332,o369),(333,o370),(334,o371)]
theorem pc17:Hd.Pc pp env T16 264 537 T17 335 624 450 [tp 29] ⟨87,0,91,16⟩ ⟨92,0,122,16⟩:=by
 intro w
 kernel_rfl
def g19 (P:Params):List DictEntry:=g16 P++[en P "MOST_ROOMS" 627 (.int 60 626),en P "named_rooms" 640 (.ref 341),en P "refuse_rooms" 648 (.ref 348),en P "leads_of" 660 (.ref 355)]
def o372 (P:Params):Obj:=⟨.type "dict",none,.dict ⟨en P "__name__" 165 zaf::g19 P⟩ 40,#[]⟩
def o373:=nf [i0 1,i0 0,r 20,i0 5,i0 0,r 27,i0 7,i0 0,r 40,i0 9,i0 0,r 52,i0 11,i0 0,r 64,i0 13,i0 0,r 76,i0 15,i0 0,r 88,i0 17,i0 0,r 100,i0 19,i0 0,r 112,i0 21,i0 0,r 124,i0 23,i0 0,r 136,i0 25,i0 0,r 148,i0 27,i0 0,r 160,i0 29,i0 0,r 172,i0 35,i0 0,r 191,i0 39,i0 0,r 210,i0 44,i0 0,r 229,i0 58,i0 0,r 236,i0 65,i0 0,r 241,i0 70,i0 0,r 248,i0 80,i0 0,r 255,i0 87,i0 0,r 262,i0 92,i0 0,r 269,i0 125,i0 0,r 340,i0 132,i0 0,r 347,i0 136,i0 0,r 354]
def o374:=tu []
def o375:=nf []
def o376:=tu [.str "begin" 631,.str "ends" 632,.str "doors" 633,.str "rooms" 634,.str "room" 635,.str "deed" 636,.str "far" 637]
def o377:=tu []
def o378:=nw "named_rooms" (tp 32) 0 .none .none
def o379:=co [.str "named_rooms" 628,.str "named_rooms" 629,cp 630,i0 125,i0 3,i0 0,i0 0,i0 3,r 335,.bool true,i0 181,r 336,.none,r 337,r 338,r 339,i0 638,i0 125,cp 639]
def o380:=fw "named_rooms" (tp 32) 3 zaf (r 340)
def o381:=tu []
def o382:=nf []
def o383:=tu [.str "rooms" 644,.str "room" 645]
def o384:=tu []
def o385:=nw "refuse_rooms" (tp 33) 0 .none .none
def o386:=co [.str "refuse_rooms" 641,.str "refuse_rooms" 642,cp 643,i0 132,i0 1,i0 0,i0 0,i0 3,r 342,.bool true,i0 181,r 343,.none,r 344,r 345,r 346,i0 646,i0 132,cp 647]
def o387:=fw "refuse_rooms" (tp 33) 3 zaf (r 347)
def o388:=tu []
def o389:=nf []
def o390:=tu [.str "rooms" 652,.str "doors" 653,.str "leads" 654,.str "room" 655,.str "deed" 656,.str "far" 657]
def o391:=tu []
def o392:=nw "leads_of" (tp 34) 0 .none .none
def o393:=co [.str "leads_of" 649,.str "leads_of" 650,cp 651,i0 136,i0 2,i0 0,i0 0,i0 3,r 349,.bool true,i0 181,r 350,.none,r 351,r 352,r 353,i0 658,i0 136,cp 659]
def o394:=fw "leads_of" (tp 34) 3 zaf (r 354)
def T18 (P:Params):BT:=ns (T17 P) [(3,o372 P),(12,o373),(335,o374),(336,o375),(337,o376),(338,o377),(339,o378),(340,o379),(341,o380),(342,o381),(343,o382),(344,o383),(345,o384),(346,o385),(347,o386),(348,o387),(349,o388),(350,o389),(351,o390),(352,o391),(353,o392),(354,o393),(355,o394)]
theorem pc18:Hd.Pc pp env T17 335 624 T18 356 661 118 [tp 30,tp 31,tp 32,tp 33,tp 34] ⟨92,0,122,16⟩ ⟨136,0,144,16⟩:=by
 intro w
 kernel_rfl
def g20 (P:Params):List DictEntry:=g19 P++[en P "Machine" 778 (.ref 448)]
def o395 (P:Params):Obj:=⟨.type "dict",none,.dict ⟨en P "__name__" 165 zaf::g20 P⟩ 41,#[]⟩
def o396:=nf [i0 1,i0 0,r 20,i0 5,i0 0,r 27,i0 7,i0 0,r 40,i0 9,i0 0,r 52,i0 11,i0 0,r 64,i0 13,i0 0,r 76,i0 15,i0 0,r 88,i0 17,i0 0,r 100,i0 19,i0 0,r 112,i0 21,i0 0,r 124,i0 23,i0 0,r 136,i0 25,i0 0,r 148,i0 27,i0 0,r 160,i0 29,i0 0,r 172,i0 35,i0 0,r 191,i0 39,i0 0,r 210,i0 44,i0 0,r 229,i0 58,i0 0,r 236,i0 65,i0 0,r 241,i0 70,i0 0,r 248,i0 80,i0 0,r 255,i0 87,i0 0,r 262,i0 92,i0 0,r 269,i0 125,i0 0,r 340,i0 132,i0 0,r 347,i0 136,i0 0,r 354,i0 145,i0 0,r 361]
def o397:=tu []
def o398:=zab
def g21 (P:Params):List DictEntry:=[en P "__qualname__" 670 (.str "Machine" 669),en P "__firstlineno__" 672 (.int 145 671),en P "__init__" 678 (.ref 368),en P "deeds" 685 (.ref 375),en P "begin" 692 (.ref 382),en P "rooms" 699 (.ref 389),en P "ends" 706 (.ref 396),en P "knows" 713 (.ref 403),en P "require_room" 721 (.ref 410),en P "at" 729 (.ref 417),en P "to" 738 (.ref 424),en P "is_end" 746 (.ref 431),en P "goes" 755 (.ref 438),en P "behind" 765 (.ref 445),en P "__static_attributes__" 771 (.ref 446)]
def o399 (P:Params):Obj:=⟨.type "dict",none,.dict ⟨en P "__module__" 668 zaf::g21 P⟩ 16,#[]⟩
def o400:=tu []
def o401:=nf [i0 147,i0 4,r 367,i0 162,i0 4,r 374,i0 165,i0 4,r 381,i0 168,i0 4,r 388,i0 171,i0 4,r 395,i0 174,i0 4,r 402,i0 177,i0 4,r 409,i0 181,i0 4,r 416,i0 185,i0 4,r 423,i0 190,i0 4,r 430,i0 194,i0 4,r 437,i0 199,i0 4,r 444]
def o402:=cv "Machine" 663 "Machine" 664 665 145 0 0 0 0 359 181 360 666 667
def o403:=fm 361 3 358 "roomward.machines" 624 0
def o404:=tu [.none]
def o405:=tu []
def o406:=nf []
def o407:=nv "__init__" "Machine.__init__" (aE (tp 35) 0) 0 .none .none
def o408:=co [.str "__init__" 673,.str "Machine.__init__" 674,cp 675,i0 147,i0 6,i0 0,i0 0,i0 3,r 364,.bool true,i0 181,r 365,.none,.none,.none,r 366,i0 676,i0 147,cp 677]
def o409:Obj:=fu ⟨"__init__","Machine.__init__",aJ (aE (tp 35) 0),.stmts (aI (aE (tp 35) 0)),aB (aE (tp 35) 0),3,[],r 363,.none,.none,.str "roomward.machines" 624,none,r 367,.none,0⟩
def o410:=tu []
def o411:=nf []
def o412:=tu [.str "self" 682]
def o413:=tu []
def o414:=nv "deeds" "Machine.deeds" (aE (tp 35) 1) 0 .none .none
def o415:=co [.str "deeds" 679,.str "Machine.deeds" 680,cp 681,i0 162,i0 1,i0 0,i0 0,i0 3,r 369,.bool true,i0 181,r 370,.none,r 371,r 372,r 373,i0 683,i0 162,cp 684]
def o416:=fv "deeds" "Machine.deeds" (aE (tp 35) 1) 3 zaf (r 374)
def o417:=tu []
def o418:=nf []
def o419:=tu [.str "self" 689]
def o420:=tu []
def o421:=nv "begin" "Machine.begin" (aE (tp 35) 2) 0 .none .none
def o422:=co [.str "begin" 686,.str "Machine.begin" 687,cp 688,i0 165,i0 1,i0 0,i0 0,i0 3,r 376,.bool true,i0 181,r 377,.none,r 378,r 379,r 380,i0 690,i0 165,cp 691]
def o423:=fv "begin" "Machine.begin" (aE (tp 35) 2) 3 zaf (r 381)
def o424:=tu []
def o425:=nf []
def o426:=tu [.str "self" 696]
def o427:=tu []
def o428:=nv "rooms" "Machine.rooms" (aE (tp 35) 3) 0 .none .none
def o429:=co [.str "rooms" 693,.str "Machine.rooms" 694,cp 695,i0 168,i0 1,i0 0,i0 0,i0 3,r 383,.bool true,i0 181,r 384,.none,r 385,r 386,r 387,i0 697,i0 168,cp 698]
def o430:=fv "rooms" "Machine.rooms" (aE (tp 35) 3) 3 zaf (r 388)
def o431:=tu []
def o432:=nf []
def o433:=tu [.str "self" 703]
def o434:=tu []
def o435:=nv "ends" "Machine.ends" (aE (tp 35) 4) 0 .none .none
def o436:=co [.str "ends" 700,.str "Machine.ends" 701,cp 702,i0 171,i0 1,i0 0,i0 0,i0 3,r 390,.bool true,i0 181,r 391,.none,r 392,r 393,r 394,i0 704,i0 171,cp 705]
def o437:=fv "ends" "Machine.ends" (aE (tp 35) 4) 3 zaf (r 395)
def o438:=tu []
def o439:=nf []
def o440:=tu [.str "self" 710]
def o441:=tu []
def o442:=nv "knows" "Machine.knows" (aE (tp 35) 5) 0 .none .none
def o443:=co [.str "knows" 707,.str "Machine.knows" 708,cp 709,i0 174,i0 1,i0 0,i0 0,i0 3,r 397,.bool true,i0 181,r 398,.none,r 399,r 400,r 401,i0 711,i0 174,cp 712]
def o444:=fv "knows" "Machine.knows" (aE (tp 35) 5) 3 zaf (r 402)
def o445:=tu []
def o446:=nf []
def o447:=tu [.str "self" 717,.str "room" 718]
def o448:=tu []
def o449:=nv "require_room" "Machine.require_room" (aE (tp 35) 6) 0 .none .none
def o450:=co [.str "require_room" 714,.str "Machine.require_room" 715,cp 716,i0 177,i0 2,i0 0,i0 0,i0 3,r 404,.bool true,i0 181,r 405,.none,r 406,r 407,r 408,i0 719,i0 177,cp 720]
def o451:=fv "require_room" "Machine.require_room" (aE (tp 35) 6) 3 zaf (r 409)
def o452:=tu []
def o453:=nf []
def o454:=tu [.str "self" 725,.str "room" 726]
def o455:=tu []
def o456:=nv "at" "Machine.at" (aE (tp 35) 7) 0 .none .none
def o457:=co [.str "at" 722,.str "Machine.at" 723,cp 724,i0 181,i0 2,i0 0,i0 0,i0 3,r 411,.bool true,i0 181,r 412,.none,r 413,r 414,r 415,i0 727,i0 181,cp 728]
def o458:=fv "at" "Machine.at" (aE (tp 35) 7) 3 zaf (r 416)
def o459:=tu []
def o460:=nf []
def o461:=tu [.str "self" 733,.str "room" 734,.str "deed" 735]
def o462:=tu []
def o463:=nv "to" "Machine.to" (aE (tp 35) 8) 0 .none .none
def o464:=co [.str "to" 730,.str "Machine.to" 731,cp 732,i0 185,i0 3,i0 0,i0 0,i0 3,r 418,.bool true,i0 181,r 419,.none,r 420,r 421,r 422,i0 736,i0 185,cp 737]
def o465:=fv "to" "Machine.to" (aE (tp 35) 8) 3 zaf (r 423)
def o466:=tu []
def o467:=nf []
def o468:=tu [.str "self" 742,.str "room" 743]
def o469:=tu []
def o470:=nv "is_end" "Machine.is_end" (aE (tp 35) 9) 0 .none .none
def o471:=co [.str "is_end" 739,.str "Machine.is_end" 740,cp 741,i0 190,i0 2,i0 0,i0 0,i0 3,r 425,.bool true,i0 181,r 426,.none,r 427,r 428,r 429,i0 744,i0 190,cp 745]
def o472:=fv "is_end" "Machine.is_end" (aE (tp 35) 9) 3 zaf (r 430)
def o473:=tu []
def o474:=nf []
def o475:=tu [.str "self" 750,.str "room" 751,.str "deed" 752]
def o476:=tu []
def o477:=nv "goes" "Machine.goes" (aE (tp 35) 10) 0 .none .none
def o478:=co [.str "goes" 747,.str "Machine.goes" 748,cp 749,i0 194,i0 3,i0 0,i0 0,i0 3,r 432,.bool true,i0 181,r 433,.none,r 434,r 435,r 436,i0 753,i0 194,cp 754]
def o479:=fv "goes" "Machine.goes" (aE (tp 35) 10) 3 zaf (r 437)
def o480:=tu []
def o481:=nf []
def o482:=tu [.str "self" 759,.str "row" 760,.str "room" 761,.str "deed" 762]
def o483:=tu []
def o484:=nv "behind" "Machine.behind" (aE (tp 35) 11) 0 .none .none
def o485:=co [.str "behind" 756,.str "Machine.behind" 757,cp 758,i0 199,i0 2,i0 0,i0 0,i0 3,r 439,.bool true,i0 181,r 440,.none,r 441,r 442,r 443,i0 763,i0 199,cp 764]
def o486:=fv "behind" "Machine.behind" (aE (tp 35) 11) 3 zaf (r 444)
def o487:=tu [.str "deeds_made_of" 766,.str "end_marks" 767,.str "first_room" 768,.str "known_marks" 769,.str "leads" 770]
def g22 (P:Params):List DictEntry:=[en P "__firstlineno__" 672 (.int 145 671),en P "__init__" 678 (.ref 368),en P "deeds" 685 (.ref 375),en P "begin" 692 (.ref 382),en P "rooms" 699 (.ref 389),en P "ends" 706 (.ref 396),en P "knows" 713 (.ref 403),en P "require_room" 721 (.ref 410),en P "at" 729 (.ref 417),en P "to" 738 (.ref 424),en P "is_end" 746 (.ref 431),en P "goes" 755 (.ref 438),en P "behind" 765 (.ref 445),en P "__static_attributes__" 771 (.ref 446),en P "__dict__" 773 (.ref 449),en P "__weakref__" 775 (.ref 450),en P "__doc__" 776 .none]
def o488 (P:Params):Obj:=⟨.type "dict",none,.dict ⟨en P "__module__" 668 zaf::g22 P⟩ 4,#[]⟩
def o489:Obj:=⟨.type "type",none,.cls ⟨"Machine",[.type "object"],[r 448,.type "object"],447,"Machine",true,[],[],false,none,false⟩,#[none,none,(some (.str "Machine" 661)),(some (.str "Machine" 669)),(some (.builtin "object.__new__")),zaj]⟩
def o490:Obj:=⟨.type "getset_descriptor",none,.fields #[.str "__dict__" 772,r 448,.builtin "function.__dict__",.builtin "function.__dict__#set"],#[]⟩
def o491:Obj:=⟨.type "getset_descriptor",none,.fields #[.str "__weakref__" 774,r 448,.builtin "ExceptionGroup.__weakref__",.none],#[]⟩
def o492:Obj:=⟨.type "super",none,.fields #[r 448,r 448,r 448],#[]⟩
def o493:Obj:=⟨.type "builtin_function_or_method",none,.fields #[.builtin "object.__init_subclass__",r 448],#[]⟩
def T19 (P:Params):BT:=ns (T18 P) [(3,o395 P),(12,o396),(356,o397),(357,o398),(358,o399 P),(359,o400),(360,o401),(361,o402),(362,o403),(363,o404),(364,o405),(365,o406),(366,o407),(367,o408),(368,o409),(369,o410),(370,o411),(371,o412),(372,o413),(373,o414),(374,o415),(375,o416),(376,o417),(377,o418),(378,o419),(379,o420),(380,o421),(381,o422),(382,o423),(383,o424),(384,o425),(385,o426),(386,o427),(387,o428),(388,o429),(389,o430),(390,o431),(391,o432),(392,o433),(393,o434),(394,o435),(395,o436),(396,o437),(397,o438),(398,o439),(399,o440),(400,o441),(401,o442),(402,o443),(403,o444),(404,o445),(405,o446),(406,o447),(407,o448),(408,o449),(409,o450),(410,o451),(411,o452),(412,o453),(413,o454),(414,o455),(415,o456),(416,o457),(417,o458),(418,o459),(419,o460),(420,o461),(421,o462),(422,o463),(423,o464),(424,o465),(425,o466),(426,o467),(427,o468),(428,o469),(429,o470),(430,o471),(431,o472),(432,o473),(433,o474),(434,o475),(435,o476),(436,o477),(437,o478),(438,o479),(439,o480),(440,o481),(441,o482),(442,o483),(443,o484),(444,o485),(445,o486),(446,o487),(447,o488 P),(448,o489),(449,o490),(450,o491),(451,o492),(452,o493)]
theorem pc19:Hd.Pc pp env T18 356 661 T19 453 779 575 [tp 35] ⟨136,0,144,16⟩ ⟨145,0,206,19⟩:=by
 intro w
 kernel_rfl
def g23 (P:Params):List DictEntry:=g20 P++[en P "MOST_WOVEN" 782 (.int 7 781),en P "begin_of" 788 (.ref 457),en P "far_of" 794 (.ref 462),en P "all_at_ends" 800 (.ref 467),en P "known_of" 809 (.ref 474)]
def o494 (P:Params):Obj:=⟨.type "dict",none,.dict ⟨en P "__name__" 165 zah::g23 P⟩ 46,#[]⟩
def o495:=nf [i0 1,i0 0,r 20,i0 5,i0 0,r 27,i0 7,i0 0,r 40,i0 9,i0 0,r 52,i0 11,i0 0,r 64,i0 13,i0 0,r 76,i0 15,i0 0,r 88,i0 17,i0 0,r 100,i0 19,i0 0,r 112,i0 21,i0 0,r 124,i0 23,i0 0,r 136,i0 25,i0 0,r 148,i0 27,i0 0,r 160,i0 29,i0 0,r 172,i0 35,i0 0,r 191,i0 39,i0 0,r 210,i0 44,i0 0,r 229,i0 58,i0 0,r 236,i0 65,i0 0,r 241,i0 70,i0 0,r 248,i0 80,i0 0,r 255,i0 87,i0 0,r 262,i0 92,i0 0,r 269,i0 125,i0 0,r 340,i0 132,i0 0,r 347,i0 136,i0 0,r 354,i0 145,i0 0,r 361,i0 209,i0 0,r 456,i0 211,i0 0,r 461,i0 214,i0 0,r 466,i0 216,i0 0,r 473]
def o496:=tu []
def o497:=nf []
def o498:=nw "begin_of" (tp 38) 0 .none .none
def o499:=co [.str "begin_of" 783,.str "begin_of" 784,cp 785,i0 209,i0 1,i0 0,i0 0,i0 3,r 453,.bool true,i0 181,r 454,.none,.none,.none,r 455,i0 786,i0 209,cp 787]
def o500:=fw "begin_of" (tp 38) 3 zah (r 456)
def o501:=tu []
def o502:=nf []
def o503:=nw "far_of" (tp 39) 0 .none .none
def o504:=co [.str "far_of" 789,.str "far_of" 790,cp 791,i0 211,i0 3,i0 0,i0 0,i0 3,r 458,.bool true,i0 181,r 459,.none,.none,.none,r 460,i0 792,i0 211,cp 793]
def o505:=fw "far_of" (tp 39) 3 zah (r 461)
def o506:=tu []
def o507:=nf []
def o508:=nw "all_at_ends" (tp 40) 0 .none .none
def o509:=co [.str "all_at_ends" 795,.str "all_at_ends" 796,cp 797,i0 214,i0 2,i0 0,i0 0,i0 3,r 463,.bool true,i0 181,r 464,.none,.none,.none,r 465,i0 798,i0 214,cp 799]
def o510:=fw "all_at_ends" (tp 40) 3 zah (r 466)
def o511:=tu []
def o512:=nf []
def o513:=tu [.str "machines" 804,.str "known" 805,.str "machine" 806]
def o514:=tu []
def o515:=nw "known_of" (tp 41) 0 .none .none
def o516:=co [.str "known_of" 801,.str "known_of" 802,cp 803,i0 216,i0 1,i0 0,i0 0,i0 3,r 468,.bool true,i0 181,r 469,.none,r 470,r 471,r 472,i0 807,i0 216,cp 808]
def o517:=fw "known_of" (tp 41) 3 zah (r 473)
def T20 (P:Params):BT:=ns (T19 P) [(3,o494 P),(12,o495),(453,o496),(454,o497),(455,o498),(456,o499),(457,o500),(458,o501),(459,o502),(460,o503),(461,o504),(462,o505),(463,o506),(464,o507),(465,o508),(466,o509),(467,o510),(468,o511),(469,o512),(470,o513),(471,o514),(472,o515),(473,o516),(474,o517)]
theorem pc20:Hd.Pc pp env T19 453 779 T20 475 810 128 [tp 36,tp 37,tp 38,tp 39,tp 40,tp 41] ⟨145,0,206,19⟩ ⟨216,0,220,26⟩:=by
 intro w
 kernel_rfl
def g24 (P:Params):List DictEntry:=g23 P++[en P "Woven" 897 (.ref 543)]
def o518 (P:Params):Obj:=⟨.type "dict",none,.dict ⟨en P "__name__" 165 zah::g24 P⟩ 47,#[]⟩
def o519:=nf [i0 1,i0 0,r 20,i0 5,i0 0,r 27,i0 7,i0 0,r 40,i0 9,i0 0,r 52,i0 11,i0 0,r 64,i0 13,i0 0,r 76,i0 15,i0 0,r 88,i0 17,i0 0,r 100,i0 19,i0 0,r 112,i0 21,i0 0,r 124,i0 23,i0 0,r 136,i0 25,i0 0,r 148,i0 27,i0 0,r 160,i0 29,i0 0,r 172,i0 35,i0 0,r 191,i0 39,i0 0,r 210,i0 44,i0 0,r 229,i0 58,i0 0,r 236,i0 65,i0 0,r 241,i0 70,i0 0,r 248,i0 80,i0 0,r 255,i0 87,i0 0,r 262,i0 92,i0 0,r 269,i0 125,i0 0,r 340,i0 132,i0 0,r 347,i0 136,i0 0,r 354,i0 145,i0 0,r 361,i0 209,i0 0,r 456,i0 211,i0 0,r 461,i0 214,i0 0,r 466,i0 216,i0 0,r 473,i0 221,i0 0,r 480]
def o520:=tu []
def o521:=zab
def g25 (P:Params):List DictEntry:=[en P "__qualname__" 819 (.str "Woven" 818),en P "__firstlineno__" 821 (.int 221 820),en P "__init__" 829 (.ref 488),en P "deeds" 836 (.ref 495),en P "begin" 843 (.ref 502),en P "knows" 850 (.ref 509),en P "at" 856 (.ref 514),en P "to" 865 (.ref 521),en P "is_end" 873 (.ref 528),en P "ways" 879 (.ref 533),en P "rooms" 887 (.ref 540),en P "__static_attributes__" 890 (.ref 541)]
def o522 (P:Params):Obj:=⟨.type "dict",none,.dict ⟨en P "__module__" 817 zah::g25 P⟩ 13,#[]⟩
def o523:=tu []
def o524:=nf [i0 223,i0 4,r 487,i0 229,i0 4,r 494,i0 232,i0 4,r 501,i0 235,i0 4,r 508,i0 238,i0 4,r 513,i0 241,i0 4,r 520,i0 247,i0 4,r 527,i0 250,i0 4,r 532,i0 253,i0 4,r 539]
def o525:=cv "Woven" 812 "Woven" 813 814 221 0 0 0 0 478 181 479 815 816
def o526:=fm 480 3 477 "roomward.weaving" 779 0
def o527:=tu []
def o528:=nf []
def o529:=tu [.str "self" 825,.str "machines" 826]
def o530:=tu []
def o531:=nv "__init__" "Woven.__init__" (aE (tp 42) 0) 0 .none .none
def o532:=co [.str "__init__" 822,.str "Woven.__init__" 823,cp 824,i0 223,i0 2,i0 0,i0 0,i0 3,r 482,.bool true,i0 181,r 483,.none,r 484,r 485,r 486,i0 827,i0 223,cp 828]
def o533:=fv "__init__" "Woven.__init__" (aE (tp 42) 0) 3 zah (r 487)
def o534:=tu []
def o535:=nf []
def o536:=tu [.str "self" 833]
def o537:=tu []
def o538:=nv "deeds" "Woven.deeds" (aE (tp 42) 1) 0 .none .none
def o539:=co [.str "deeds" 830,.str "Woven.deeds" 831,cp 832,i0 229,i0 1,i0 0,i0 0,i0 3,r 489,.bool true,i0 181,r 490,.none,r 491,r 492,r 493,i0 834,i0 229,cp 835]
def o540:=fv "deeds" "Woven.deeds" (aE (tp 42) 1) 3 zah (r 494)
def o541:=tu []
def o542:=nf []
def o543:=tu [.str "self" 840]
def o544:=tu []
def o545:=nv "begin" "Woven.begin" (aE (tp 42) 2) 0 .none .none
def o546:=co [.str "begin" 837,.str "Woven.begin" 838,cp 839,i0 232,i0 1,i0 0,i0 0,i0 3,r 496,.bool true,i0 181,r 497,.none,r 498,r 499,r 500,i0 841,i0 232,cp 842]
def o547:=fv "begin" "Woven.begin" (aE (tp 42) 2) 3 zah (r 501)
def o548:=tu []
def o549:=nf []
def o550:=tu [.str "self" 847]
def o551:=tu []
def o552:=nv "knows" "Woven.knows" (aE (tp 42) 3) 0 .none .none
def o553:=co [.str "knows" 844,.str "Woven.knows" 845,cp 846,i0 235,i0 1,i0 0,i0 0,i0 3,r 503,.bool true,i0 181,r 504,.none,r 505,r 506,r 507,i0 848,i0 235,cp 849]
def o554:=fv "knows" "Woven.knows" (aE (tp 42) 3) 3 zah (r 508)
def o555:=tu []
def o556:=nf []
def o557:=nv "at" "Woven.at" (aE (tp 42) 4) 0 .none .none
def o558:=co [.str "at" 851,.str "Woven.at" 852,cp 853,i0 238,i0 2,i0 0,i0 0,i0 3,r 510,.bool true,i0 181,r 511,.none,.none,.none,r 512,i0 854,i0 238,cp 855]
def o559:=fv "at" "Woven.at" (aE (tp 42) 4) 3 zah (r 513)
def o560:=tu []
def o561:=nf []
def o562:=tu [.str "self" 860,.str "room" 861,.str "deed" 862]
def o563:=tu []
def o564:=nv "to" "Woven.to" (aE (tp 42) 5) 0 .none .none
def o565:=co [.str "to" 857,.str "Woven.to" 858,cp 859,i0 241,i0 3,i0 0,i0 0,i0 3,r 515,.bool true,i0 181,r 516,.none,r 517,r 518,r 519,i0 863,i0 241,cp 864]
def o566:=fv "to" "Woven.to" (aE (tp 42) 5) 3 zah (r 520)
def o567:=tu []
def o568:=nf []
def o569:=tu [.str "self" 869,.str "room" 870]
def o570:=tu []
def o571:=nv "is_end" "Woven.is_end" (aE (tp 42) 6) 0 .none .none
def o572:=co [.str "is_end" 866,.str "Woven.is_end" 867,cp 868,i0 247,i0 2,i0 0,i0 0,i0 3,r 522,.bool true,i0 181,r 523,.none,r 524,r 525,r 526,i0 871,i0 247,cp 872]
def o573:=fv "is_end" "Woven.is_end" (aE (tp 42) 6) 3 zah (r 527)
def o574:=tu []
def o575:=nf []
def o576:=nv "ways" "Woven.ways" (aE (tp 42) 7) 0 .none .none
def o577:=co [.str "ways" 874,.str "Woven.ways" 875,cp 876,i0 250,i0 2,i0 0,i0 0,i0 3,r 529,.bool true,i0 181,r 530,.none,.none,.none,r 531,i0 877,i0 250,cp 878]
def o578:=fv "ways" "Woven.ways" (aE (tp 42) 7) 3 zah (r 532)
def o579:=tu []
def o580:=nf []
def o581:=tu [.str "self" 883]
def o582:=tu [.str "self" 884]
def o583:=nv "rooms" "Woven.rooms" (aE (tp 42) 8) 0 .none .none
def o584:=co [.str "rooms" 880,.str "Woven.rooms" 881,cp 882,i0 253,i0 1,i0 0,i0 0,i0 3,r 534,.bool true,i0 181,r 535,.none,r 536,r 537,r 538,i0 885,i0 253,cp 886]
def o585:=fv "rooms" "Woven.rooms" (aE (tp 42) 8) 3 zah (r 539)
def o586:=tu [.str "known_marks" 888,.str "machines" 889]
def g26 (P:Params):List DictEntry:=[en P "__firstlineno__" 821 (.int 221 820),en P "__init__" 829 (.ref 488),en P "deeds" 836 (.ref 495),en P "begin" 843 (.ref 502),en P "knows" 850 (.ref 509),en P "at" 856 (.ref 514),en P "to" 865 (.ref 521),en P "is_end" 873 (.ref 528),en P "ways" 879 (.ref 533),en P "rooms" 887 (.ref 540),en P "__static_attributes__" 890 (.ref 541),en P "__dict__" 892 (.ref 544),en P "__weakref__" 894 (.ref 545),en P "__doc__" 895 .none]
def o587 (P:Params):Obj:=⟨.type "dict",none,.dict ⟨en P "__module__" 817 zah::g26 P⟩ 4,#[]⟩
def o588:Obj:=⟨.type "type",none,.cls ⟨"Woven",[.type "object"],[r 543,.type "object"],542,"Woven",true,[],[],false,none,false⟩,#[none,none,(some (.str "Woven" 810)),(some (.str "Woven" 818)),(some (.builtin "object.__new__")),zaj]⟩
def o589:Obj:=⟨.type "getset_descriptor",none,.fields #[.str "__dict__" 891,r 543,.builtin "function.__dict__",.builtin "function.__dict__#set"],#[]⟩
def o590:Obj:=⟨.type "getset_descriptor",none,.fields #[.str "__weakref__" 893,r 543,.builtin "ExceptionGroup.__weakref__",.none],#[]⟩
def o591:Obj:=⟨.type "super",none,.fields #[r 543,r 543,r 543],#[]⟩
def o592:Obj:=⟨.type "builtin_function_or_method",none,.fields #[.builtin "object.__init_subclass__",r 543],#[]⟩
def T21 (P:Params):BT:=ns (T20 P) [(3,o518 P),(12,o519),(475,o520),(476,o521),(477,o522 P),(478,o523),(479,o524),(480,o525),(481,o526),(482,o527),(483,o528),(484,o529),(485,o530),(486,o531),(487,o532),(488,o533),(489,o534),(490,o535),(491,o536),(492,o537),(493,o538),(494,o539),(495,o540),(496,o541),(497,o542),(498,o543),(499,o544),(500,o545),(501,o546),(502,o547),(503,o548),(504,o549),(505,o550),(506,o551),(507,o552),(508,o553),(509,o554),(510,o555),(511,o556),(512,o557),(513,o558),(514,o559),(515,o560),(516,o561),(517,o562),(518,o563),(519,o564),(520,o565),(521,o566),(522,o567),(523,o568),(524,o569),(525,o570),(526,o571),(527,o572),(528,o573),(529,o574),(530,o575),(531,o576),(532,o577),(533,o578),(534,o579),(535,o580),(536,o581),(537,o582),(538,o583),(539,o584),(540,o585),(541,o586),(542,o587 P),(543,o588),(544,o589),(545,o590),(546,o591),(547,o592)]
theorem pc21:Hd.Pc pp env T20 475 810 T21 548 898 470 [tp 42] ⟨216,0,220,26⟩ ⟨221,0,254,78⟩:=by
 intro w
 kernel_rfl
def g27 (P:Params):List DictEntry:=g24 P++[en P "made_one" 903 (.ref 552),en P "_law_mixed" 914 (.ref 559),en P "_law_cell_at" 922 (.ref 566),en P "_law_names_by" 928 (.ref 571),en P "_law_deeds_by" 934 (.ref 576),en P "_law_rooms_by" 940 (.ref 581),en P "_law_machine_by" 946 (.ref 586),en P "_law_plant_by" 952 (.ref 591),en P "_law_more" 963 (.ref 598),en P "_law_machines" 969 (.ref 603),en P "_law_word" 977 (.ref 610),en P "_law_tried" 985 (.ref 617),en P "_law_maps" 991 (.ref 622)]
def o593 (P:Params):Obj:=⟨.type "dict",none,.dict ⟨en P "__name__" 165 zae::g27 P⟩ 60,#[]⟩
def o594:=nf [i0 1,i0 0,r 20,i0 5,i0 0,r 27,i0 7,i0 0,r 40,i0 9,i0 0,r 52,i0 11,i0 0,r 64,i0 13,i0 0,r 76,i0 15,i0 0,r 88,i0 17,i0 0,r 100,i0 19,i0 0,r 112,i0 21,i0 0,r 124,i0 23,i0 0,r 136,i0 25,i0 0,r 148,i0 27,i0 0,r 160,i0 29,i0 0,r 172,i0 35,i0 0,r 191,i0 39,i0 0,r 210,i0 44,i0 0,r 229,i0 58,i0 0,r 236,i0 65,i0 0,r 241,i0 70,i0 0,r 248,i0 80,i0 0,r 255,i0 87,i0 0,r 262,i0 92,i0 0,r 269,i0 125,i0 0,r 340,i0 132,i0 0,r 347,i0 136,i0 0,r 354,i0 145,i0 0,r 361,i0 209,i0 0,r 456,i0 211,i0 0,r 461,i0 214,i0 0,r 466,i0 216,i0 0,r 473,i0 221,i0 0,r 480,i0 255,i0 0,r 551,i0 266,i0 0,r 558,i0 269,i0 0,r 565,i0 273,i0 0,r 570,i0 277,i0 0,r 575,i0 283,i0 0,r 580,i0 287,i0 0,r 585,i0 301,i0 0,r 590,i0 304,i0 0,r 597,i0 310,i0 0,r 602,i0 312,i0 0,r 609,i0 323,i0 0,r 616,i0 329,i0 0,r 621]
def o595:=tu []
def o596:=nf []
def o597:=nw "made_one" (tp 43) 0 .none .none
def o598:=co [.str "made_one" 898,.str "made_one" 899,cp 900,i0 255,i0 1,i0 0,i0 0,i0 3,r 548,.bool true,i0 181,r 549,.none,.none,.none,r 550,i0 901,i0 255,cp 902]
def o599:=fw "made_one" (tp 43) 3 zah (r 551)
def o600:=tu []
def o601:=nf []
def o602:=tu [.str "_law_cell" 909,.str "_law_k" 910,.str "_law_one" 911]
def o603:=tu []
def o604:=nw "_law_mixed" (tp 45) 0 .none .none
def o605:=co [.str "_law_mixed" 906,.str "_law_mixed" 907,cp 908,i0 266,i0 2,i0 0,i0 0,i0 3,r 553,.bool true,i0 181,r 554,.none,r 555,r 556,r 557,i0 912,i0 266,cp 913]
def o606:=fw "_law_mixed" (tp 45) 3 zae (r 558)
def o607:=tu []
def o608:=nf []
def o609:=tu [.str "_law_script" 918,.str "_law_k" 919]
def o610:=tu []
def o611:=nw "_law_cell_at" (tp 46) 0 .none .none
def o612:=co [.str "_law_cell_at" 915,.str "_law_cell_at" 916,cp 917,i0 269,i0 2,i0 0,i0 0,i0 3,r 560,.bool true,i0 181,r 561,.none,r 562,r 563,r 564,i0 920,i0 269,cp 921]
def o613:=fw "_law_cell_at" (tp 46) 3 zae (r 565)
def o614:=tu []
def o615:=nf []
def o616:=nw "_law_names_by" (tp 47) 0 .none .none
def o617:=co [.str "_law_names_by" 923,.str "_law_names_by" 924,cp 925,i0 273,i0 2,i0 0,i0 0,i0 3,r 567,.bool true,i0 181,r 568,.none,.none,.none,r 569,i0 926,i0 273,cp 927]
def o618:=fw "_law_names_by" (tp 47) 3 zae (r 570)
def o619:=tu []
def o620:=nf []
def o621:=nw "_law_deeds_by" (tp 48) 0 .none .none
def o622:=co [.str "_law_deeds_by" 929,.str "_law_deeds_by" 930,cp 931,i0 277,i0 1,i0 0,i0 0,i0 3,r 572,.bool true,i0 181,r 573,.none,.none,.none,r 574,i0 932,i0 277,cp 933]
def o623:=fw "_law_deeds_by" (tp 48) 3 zae (r 575)
def o624:=tu []
def o625:=nf []
def o626:=nw "_law_rooms_by" (tp 49) 0 .none .none
def o627:=co [.str "_law_rooms_by" 935,.str "_law_rooms_by" 936,cp 937,i0 283,i0 2,i0 0,i0 0,i0 3,r 577,.bool true,i0 181,r 578,.none,.none,.none,r 579,i0 938,i0 283,cp 939]
def o628:=fw "_law_rooms_by" (tp 49) 3 zae (r 580)
def o629:=tu []
def o630:=nf []
def o631:=nw "_law_machine_by" (tp 50) 0 .none .none
def o632:=co [.str "_law_machine_by" 941,.str "_law_machine_by" 942,cp 943,i0 287,i0 3,i0 0,i0 0,i0 3,r 582,.bool true,i0 181,r 583,.none,.none,.none,r 584,i0 944,i0 287,cp 945]
def o633:=fw "_law_machine_by" (tp 50) 3 zae (r 585)
def o634:=tu []
def o635:=nf []
def o636:=nw "_law_plant_by" (tp 51) 0 .none .none
def o637:=co [.str "_law_plant_by" 947,.str "_law_plant_by" 948,cp 949,i0 301,i0 2,i0 0,i0 0,i0 3,r 587,.bool true,i0 181,r 588,.none,.none,.none,r 589,i0 950,i0 301,cp 951]
def o638:=fw "_law_plant_by" (tp 51) 3 zae (r 590)
def o639:=tu []
def o640:=nf []
def o641:=tu [.str "_law_plant" 956,.str "_law_cell" 957,.str "_law_names" 958,.str "_law_found" 959,.str "_law_k" 960]
def o642:=tu []
def o643:=nw "_law_more" (tp 52) 0 .none .none
def o644:=co [.str "_law_more" 953,.str "_law_more" 954,cp 955,i0 304,i0 3,i0 0,i0 0,i0 3,r 592,.bool true,i0 181,r 593,.none,r 594,r 595,r 596,i0 961,i0 304,cp 962]
def o645:=fw "_law_more" (tp 52) 3 zae (r 597)
def o646:=tu []
def o647:=nf []
def o648:=nw "_law_machines" (tp 53) 0 .none .none
def o649:=co [.str "_law_machines" 964,.str "_law_machines" 965,cp 966,i0 310,i0 2,i0 0,i0 0,i0 3,r 599,.bool true,i0 181,r 600,.none,.none,.none,r 601,i0 967,i0 310,cp 968]
def o650:=fw "_law_machines" (tp 53) 3 zae (r 602)
def o651:=tu []
def o652:=nf []
def o653:=tu [.str "_law_e" 973,.str "_law_words" 974]
def o654:=tu []
def o655:=nw "_law_word" (tp 54) 0 .none .none
def o656:=co [.str "_law_word" 970,.str "_law_word" 971,cp 972,i0 312,i0 1,i0 0,i0 0,i0 3,r 604,.bool true,i0 181,r 605,.none,r 606,r 607,r 608,i0 975,i0 312,cp 976]
def o657:=fw "_law_word" (tp 54) 3 zae (r 609)
def o658:=tu []
def o659:=nf []
def o660:=tu [.str "_law_deed" 981,.str "_law_e" 982]
def o661:=tu []
def o662:=nw "_law_tried" (tp 55) 0 .none .none
def o663:=co [.str "_law_tried" 978,.str "_law_tried" 979,cp 980,i0 323,i0 1,i0 0,i0 0,i0 3,r 611,.bool true,i0 181,r 612,.none,r 613,r 614,r 615,i0 983,i0 323,cp 984]
def o664:=fw "_law_tried" (tp 55) 3 zae (r 616)
def o665:=tu []
def o666:=nf []
def o667:=nw "_law_maps" (tp 56) 0 .none .none
def o668:=co [.str "_law_maps" 986,.str "_law_maps" 987,cp 988,i0 329,i0 1,i0 0,i0 0,i0 3,r 618,.bool true,i0 181,r 619,.none,.none,.none,r 620,i0 989,i0 329,cp 990]
def o669:=fw "_law_maps" (tp 56) 3 zae (r 621)
def T22 (P:Params):BT:=ns (T21 P) [(3,o593 P),(12,o594),(548,o595),(549,o596),(550,o597),(551,o598),(552,o599),(553,o600),(554,o601),(555,o602),(556,o603),(557,o604),(558,o605),(559,o606),(560,o607),(561,o608),(562,o609),(563,o610),(564,o611),(565,o612),(566,o613),(567,o614),(568,o615),(569,o616),(570,o617),(571,o618),(572,o619),(573,o620),(574,o621),(575,o622),(576,o623),(577,o624),(578,o625),(579,o626),(580,o627),(581,o628),(582,o629),(583,o630),(584,o631),(585,o632),(586,o633),(587,o634),(588,o635),(589,o636),(590,o637),(591,o638),(592,o639),(593,o640),(594,o641),(595,o642),(596,o643),(597,o644),(598,o645),(599,o646),(600,o647),(601,o648),(602,o649),(603,o650),(604,o651),(605,o652),(606,o653),(607,o654),(608,o655),(609,o656),(610,o657),(611,o658),(612,o659),(613,o660),(614,o661),(615,o662),(616,o663),(617,o664),(618,o665),(619,o666),(620,o667),(621,o668),(622,o669)]
theorem pc22:Hd.Pc pp env T21 548 898 T22 623 992 372 [tp 43,tp 44,tp 45,tp 46,tp 47,tp 48,tp 49,tp 50,tp 51,tp 52,tp 53,tp 54,tp 55,tp 56] ⟨221,0,254,78⟩ ⟨329,0,336,21⟩:=by
 intro w
 kernel_rfl
def g28 (P:Params):List DictEntry:=g27 P++[en P "_law_step" 1004 (.ref 629),en P "_law_come" 1010 (.ref 634),en P "_law_ring" 1016 (.ref 639),en P "_law_one_good" 1022 (.ref 644),en P "law" 1028 (.ref 649)]
def o670 (P:Params):Obj:=⟨.type "dict",none,.dict ⟨en P "__name__" 165 zae::g28 P⟩ 65,#[]⟩
def o671:=nf [i0 1,i0 0,r 20,i0 5,i0 0,r 27,i0 7,i0 0,r 40,i0 9,i0 0,r 52,i0 11,i0 0,r 64,i0 13,i0 0,r 76,i0 15,i0 0,r 88,i0 17,i0 0,r 100,i0 19,i0 0,r 112,i0 21,i0 0,r 124,i0 23,i0 0,r 136,i0 25,i0 0,r 148,i0 27,i0 0,r 160,i0 29,i0 0,r 172,i0 35,i0 0,r 191,i0 39,i0 0,r 210,i0 44,i0 0,r 229,i0 58,i0 0,r 236,i0 65,i0 0,r 241,i0 70,i0 0,r 248,i0 80,i0 0,r 255,i0 87,i0 0,r 262,i0 92,i0 0,r 269,i0 125,i0 0,r 340,i0 132,i0 0,r 347,i0 136,i0 0,r 354,i0 145,i0 0,r 361,i0 209,i0 0,r 456,i0 211,i0 0,r 461,i0 214,i0 0,r 466,i0 216,i0 0,r 473,i0 221,i0 0,r 480,i0 255,i0 0,r 551,i0 266,i0 0,r 558,i0 269,i0 0,r 565,i0 273,i0 0,r 570,i0 277,i0 0,r 575,i0 283,i0 0,r 580,i0 287,i0 0,r 585,i0 301,i0 0,r 590,i0 304,i0 0,r 597,i0 310,i0 0,r 602,i0 312,i0 0,r 609,i0 323,i0 0,r 616,i0 329,i0 0,r 621,i0 337,i0 0,r 628,i0 351,i0 0,r 633,i0 361,i0 0,r 638,i0 366,i0 0,r 643,i0 381,i0 0,r 648]
def o672:=tu []
def o673:=nf []
def o674:=tu [.str "_law_maps_here" 995,.str "_law_room" 996,.str "_law_deed" 997,.str "_law_found" 998,.str "_law_many" 999,.str "_law_k" 1000,.str "_law_one" 1001]
def o675:=tu []
def o676:=nw "_law_step" (tp 57) 0 .none .none
def o677:=co [.str "_law_step" 992,.str "_law_step" 993,cp 994,i0 337,i0 3,i0 0,i0 0,i0 3,r 623,.bool true,i0 181,r 624,.none,r 625,r 626,r 627,i0 1002,i0 337,cp 1003]
def o678:=fw "_law_step" (tp 57) 3 zae (r 628)
def o679:=tu []
def o680:=nf []
def o681:=nw "_law_come" (tp 58) 0 .none .none
def o682:=co [.str "_law_come" 1005,.str "_law_come" 1006,cp 1007,i0 351,i0 3,i0 0,i0 0,i0 3,r 630,.bool true,i0 181,r 631,.none,.none,.none,r 632,i0 1008,i0 351,cp 1009]
def o683:=fw "_law_come" (tp 58) 3 zae (r 633)
def o684:=tu []
def o685:=nf []
def o686:=nw "_law_ring" (tp 59) 0 .none .none
def o687:=co [.str "_law_ring" 1011,.str "_law_ring" 1012,cp 1013,i0 361,i0 1,i0 0,i0 0,i0 3,r 635,.bool true,i0 181,r 636,.none,.none,.none,r 637,i0 1014,i0 361,cp 1015]
def o688:=fw "_law_ring" (tp 59) 3 zae (r 638)
def o689:=tu []
def o690:=nf []
def o691:=nw "_law_one_good" (tp 60) 0 .none .none
def o692:=co [.str "_law_one_good" 1017,.str "_law_one_good" 1018,cp 1019,i0 366,i0 4,i0 0,i0 0,i0 3,r 640,.bool true,i0 181,r 641,.none,.none,.none,r 642,i0 1020,i0 366,cp 1021]
def o693:=fw "_law_one_good" (tp 60) 3 zae (r 643)
def o694:=tu []
def o695:=nf []
def o696:=nw "law" (tp 61) 0 .none .none
def o697:=co [.str "law" 1023,.str "law" 1024,cp 1025,i0 381,i0 1,i0 0,i0 0,i0 3,r 645,.bool true,i0 181,r 646,.none,.none,.none,r 647,i0 1026,i0 381,cp 1027]
def o698:=fw "law" (tp 61) 3 zae (r 648)
def T23 (P:Params):BT:=ns (T22 P) [(3,o670 P),(12,o671),(623,o672),(624,o673),(625,o674),(626,o675),(627,o676),(628,o677),(629,o678),(630,o679),(631,o680),(632,o681),(633,o682),(634,o683),(635,o684),(636,o685),(637,o686),(638,o687),(639,o688),(640,o689),(641,o690),(642,o691),(643,o692),(644,o693),(645,o694),(646,o695),(647,o696),(648,o697),(649,o698)]
theorem pc23:Hd.Pc pp env T22 623 992 T23 650 1029 140 [tp 57,tp 58,tp 59,tp 60,tp 61] ⟨329,0,336,21⟩ ⟨381,0,399,15⟩:=by
 intro w
 kernel_rfl
def Hf (P:Params):Heap:=⟨Array.mk [boot_o_0 P,boot_o_1 P,boot_o_2 P,o670 P,boot_o_4 P,boot_o_5 P,boot_o_6 P,boot_o_7 P,boot_o_8 P,boot_o_9 P,boot_o_10 P,o0,o671,o2,o3,o6,o7,o8,o9,o10,o11,o12,o13,o14,o15 P,o16,o17,o18,o19,o20,o21 P,o237,o23,o24,o25,o29,o30,o31 P,o32,o33,o34,o35,o36,o37 P,o38,o39,o40,o44,o45,o46 P,o47,o48,o49,o50,o51,o52 P,o53,o54,o55,o59,o60,o61 P,o62,o63,o64,o65,o66,o67 P,o68,o69,o70,o74,o75,o76 P,o77,o78,o79,o80,o81,o82 P,o83,o84,o85,o89,o90,o91 P,o92,o93,o94,o95,o96,o97 P,o98,o99,o100,o104,o105,o106 P,o107,o108,o109,o110,o111,o112 P,o113,o114,o115,o119,o120,o121 P,o122,o123,o124,o125,o126,o127 P,o128,o129,o130,o134,o135,o136 P,o137,o138,o139,o140,o141,o142 P,o143,o144,o145,o149,o150,o151 P,o152,o153,o154,o155,o156,o157 P,o158,o159,o160,o164,o165,o166 P,o167,o168,o169,o170,o171,o172 P,o173,o174,o175,o179,o180,o181 P,o182,o183,o184,o185,o186,o187 P,o188,o189,o190,o194,o195,o196 P,o197,o198,o199,o200,o201,o202,o203,o204,o205,o206,o207,o208,o209 P,o210,o211,o212,o216,o217,o218 P,o219,o220,o221,o222,o223,o224,o225,o226,o227,o228,o229,o230,o231 P,o232,o233,o234,o238,o239,o240 P,o241,o242,o243,o244,o245,o246,o247,o248,o249,o250,o251,o252,o253 P,o254,o255,o256,o257,o258,o259,o260,o261,o262,o263,o264,o265,o266,o267,o268,o269,o270,o271,o272,o273,o274,o275,o278,o279,o280,o281,o282,o283,o284,o285,o286,o287,o288,o289,o290,o291,o292,o293,o294,o295,o296,o297,o298,o301,o302,o303 P,o304,o305,o306,o307,o308,o309,o310,o311,o312,o313,o314,o315,o316,o317,o318,o319,o320,o321,o322,o323,o324,o325,o326,o327,o328,o329,o330,o331,o332,o333,o334,o335,o336,o337,o338,o339,o340,o341,o342,o343,o344,o345,o346,o347,o348,o349,o350,o351,o352,o353,o354,o355,o356,o357,o358,o359,o360,o361,o362,o363,o364,o365,o366 P,o367,o368,o369,o370,o371,o374,o375,o376,o377,o378,o379,o380,o381,o382,o383,o384,o385,o386,o387,o388,o389,o390,o391,o392,o393,o394,o397,o398,o399 P,o400,o401,o402,o403,o404,o405,o406,o407,o408,o409,o410,o411,o412,o413,o414,o415,o416,o417,o418,o419,o420,o421,o422,o423,o424,o425,o426,o427,o428,o429,o430,o431,o432,o433,o434,o435,o436,o437,o438,o439,o440,o441,o442,o443,o444,o445,o446,o447,o448,o449,o450,o451,o452,o453,o454,o455,o456,o457,o458,o459,o460,o461,o462,o463,o464,o465,o466,o467,o468,o469,o470,o471,o472,o473,o474,o475,o476,o477,o478,o479,o480,o481,o482,o483,o484,o485,o486,o487,o488 P,o489,o490,o491,o492,o493,o496,o497,o498,o499,o500,o501,o502,o503,o504,o505,o506,o507,o508,o509,o510,o511,o512,o513,o514,o515,o516,o517,o520,o521,o522 P,o523,o524,o525,o526,o527,o528,o529,o530,o531,o532,o533,o534,o535,o536,o537,o538,o539,o540,o541,o542,o543,o544,o545,o546,o547,o548,o549,o550,o551,o552,o553,o554,o555,o556,o557,o558,o559,o560,o561,o562,o563,o564,o565,o566,o567,o568,o569,o570,o571,o572,o573,o574,o575,o576,o577,o578,o579,o580,o581,o582,o583,o584,o585,o586,o587 P,o588,o589,o590,o591,o592,o595,o596,o597,o598,o599,o600,o601,o602,o603,o604,o605,o606,o607,o608,o609,o610,o611,o612,o613,o614,o615,o616,o617,o618,o619,o620,o621,o622,o623,o624,o625,o626,o627,o628,o629,o630,o631,o632,o633,o634,o635,o636,o637,o638,o639,o640,o641,o642,o643,o644,o645,o646,o647,o648,o649,o650,o651,o652,o653,o654,o655,o656,o657,o658,o659,o660,o661,o662,o663,o664,o665,o666,o667,o668,o669,o672,o673,o674,o675,o676,o677,o678,o679,o680,o681,o682,o683,o684,o685,o686,o687,o688,o689,o690,o691,o692,o693,o694,o695,o696,o697,o698],Hd.lf⟩
theorem fin:Hd.Fi pp env T23 650 1029 Hf 1029 2 ⟨381,0,399,15⟩:=by
 intro w
 kernel_rfl
def vw:Program:={ pp with main:={ pp.main with body:=[tp 0,tp 2,tp 3,tp 4,tp 5,tp 6,tp 7,tp 8,tp 9,tp 10,tp 11,tp 12,tp 13,tp 14,tp 15,tp 16,tp 18,tp 19,tp 21,tp 22,tp 23,tp 24,tp 25,tp 26,tp 27,tp 28,tp 29,tp 31,tp 32,tp 33,tp 34,tp 35,tp 37,tp 38,tp 39,tp 40,tp 41,tp 42,tp 43,tp 45,tp 46,tp 47,tp 48,tp 49,tp 50,tp 51,tp 52,tp 53,tp 54,tp 55,tp 56,tp 57,tp 58,tp 59,tp 60,tp 61] } }
def kk (P:Params):Frag:=
 (nat_lit 2,boot_o_2 P)::(nat_lit 3,o670 P)::(nat_lit 15,o6)::(nat_lit 17,o8)::(nat_lit 18,o9)::(nat_lit 20,o11)::(nat_lit 21,o12)::(nat_lit 22,o13)::(nat_lit 29,o20)::(nat_lit 30,o21 P)::(nat_lit 31,o237)::(nat_lit 32,o23)::(nat_lit 35,o29)::(nat_lit 42,o36)::(nat_lit 43,o37 P)::(nat_lit 44,o38)::(nat_lit 47,o44)::(nat_lit 54,o51)::(nat_lit 55,o52 P)::(nat_lit 56,o53)::(nat_lit 59,o59)::(nat_lit 66,o66)::(nat_lit 67,o67 P)::(nat_lit 68,o68)::(nat_lit 71,o74)::(nat_lit 78,o81)::(nat_lit 79,o82 P)::(nat_lit 80,o83)::(nat_lit 83,o89)::(nat_lit 90,o96)::(nat_lit 91,o97 P)::(nat_lit 92,o98)::(nat_lit 95,o104)::(nat_lit 102,o111)::(nat_lit 103,o112 P)::(nat_lit 104,o113)::(nat_lit 107,o119)::(nat_lit 114,o126)::(nat_lit 115,o127 P)::(nat_lit 116,o128)::(nat_lit 119,o134)::(nat_lit 126,o141)::(nat_lit 127,o142 P)::(nat_lit 128,o143)::(nat_lit 131,o149)::(nat_lit 138,o156)::(nat_lit 139,o157 P)::(nat_lit 140,o158)::(nat_lit 143,o164)::(nat_lit 150,o171)::(nat_lit 151,o172 P)::(nat_lit 152,o173)::(nat_lit 155,o179)::(nat_lit 162,o186)::(nat_lit 163,o187 P)::(nat_lit 164,o188)::(nat_lit 167,o194)::(nat_lit 174,o201)::(nat_lit 176,o203)::(nat_lit 177,o204)::(nat_lit 179,o206)::(nat_lit 180,o207)::(nat_lit 181,o208)::(nat_lit 182,o209 P)::(nat_lit 183,o210)::(nat_lit 186,o216)::(nat_lit 193,o223)::(nat_lit 195,o225)::(nat_lit 196,o226)::(nat_lit 198,o228)::(nat_lit 199,o229)::(nat_lit 200,o230)::(nat_lit 201,o231 P)::(nat_lit 202,o232)::(nat_lit 205,o238)::(nat_lit 212,o245)::(nat_lit 214,o247)::(nat_lit 215,o248)::(nat_lit 217,o250)::(nat_lit 218,o251)::(nat_lit 219,o252)::(nat_lit 220,o253 P)::(nat_lit 221,o254)::(nat_lit 224,o257)::(nat_lit 226,o259)::(nat_lit 227,o260)::(nat_lit 229,o262)::(nat_lit 230,o263)::(nat_lit 231,o264)::(nat_lit 233,o266)::(nat_lit 234,o267)::(nat_lit 236,o269)::(nat_lit 237,o270)::(nat_lit 238,o271)::(nat_lit 241,o274)::(nat_lit 242,o275)::(nat_lit 243,o278)::(nat_lit 245,o280)::(nat_lit 246,o281)::(nat_lit 248,o283)::(nat_lit 249,o284)::(nat_lit 250,o285)::(nat_lit 252,o287)::(nat_lit 253,o288)::(nat_lit 255,o290)::(nat_lit 256,o291)::(nat_lit 257,o292)::(nat_lit 259,o294)::(nat_lit 260,o295)::(nat_lit 262,o297)::(nat_lit 263,o298)::(nat_lit 271,o308)::(nat_lit 272,o309)::(nat_lit 274,o311)::(nat_lit 275,o312)::(nat_lit 277,o314)::(nat_lit 278,o315)::(nat_lit 279,o316)::(nat_lit 281,o318)::(nat_lit 282,o319)::(nat_lit 284,o321)::(nat_lit 285,o322)::(nat_lit 286,o323)::(nat_lit 288,o325)::(nat_lit 289,o326)::(nat_lit 291,o328)::(nat_lit 292,o329)::(nat_lit 293,o330)::(nat_lit 295,o332)::(nat_lit 296,o333)::(nat_lit 298,o335)::(nat_lit 299,o336)::(nat_lit 300,o337)::(nat_lit 302,o339)::(nat_lit 303,o340)::(nat_lit 305,o342)::(nat_lit 306,o343)::(nat_lit 307,o344)::(nat_lit 309,o346)::(nat_lit 310,o347)::(nat_lit 312,o349)::(nat_lit 313,o350)::(nat_lit 314,o351)::(nat_lit 316,o353)::(nat_lit 317,o354)::(nat_lit 319,o356)::(nat_lit 320,o357)::(nat_lit 321,o358)::(nat_lit 323,o360)::(nat_lit 324,o361)::(nat_lit 326,o363)::(nat_lit 327,o364)::(nat_lit 328,o365)::(nat_lit 329,o366 P)::(nat_lit 330,o367)::(nat_lit 331,o368)::(nat_lit 332,o369)::(nat_lit 335,o374)::(nat_lit 337,o376)::(nat_lit 338,o377)::(nat_lit 340,o379)::(nat_lit 341,o380)::(nat_lit 342,o381)::(nat_lit 344,o383)::(nat_lit 345,o384)::(nat_lit 347,o386)::(nat_lit 348,o387)::(nat_lit 349,o388)::(nat_lit 351,o390)::(nat_lit 352,o391)::(nat_lit 354,o393)::(nat_lit 355,o394)::(nat_lit 363,o404)::(nat_lit 364,o405)::(nat_lit 367,o408)::(nat_lit 368,o409)::(nat_lit 369,o410)::(nat_lit 371,o412)::(nat_lit 372,o413)::(nat_lit 374,o415)::(nat_lit 375,o416)::(nat_lit 376,o417)::(nat_lit 378,o419)::(nat_lit 379,o420)::(nat_lit 381,o422)::(nat_lit 382,o423)::(nat_lit 383,o424)::(nat_lit 385,o426)::(nat_lit 386,o427)::(nat_lit 388,o429)::(nat_lit 389,o430)::(nat_lit 390,o431)::(nat_lit 392,o433)::(nat_lit 393,o434)::(nat_lit 395,o436)::(nat_lit 396,o437)::(nat_lit 397,o438)::(nat_lit 399,o440)::(nat_lit 400,o441)::(nat_lit 402,o443)::(nat_lit 403,o444)::(nat_lit 404,o445)::(nat_lit 406,o447)::(nat_lit 407,o448)::(nat_lit 409,o450)::(nat_lit 410,o451)::(nat_lit 411,o452)::(nat_lit 413,o454)::(nat_lit 414,o455)::(nat_lit 416,o457)::(nat_lit 417,o458)::(nat_lit 418,o459)::(nat_lit 420,o461)::(nat_lit 421,o462)::(nat_lit 423,o464)::(nat_lit 424,o465)::(nat_lit 425,o466)::(nat_lit 427,o468)::(nat_lit 428,o469)::(nat_lit 430,o471)::(nat_lit 431,o472)::(nat_lit 432,o473)::(nat_lit 434,o475)::(nat_lit 435,o476)::(nat_lit 437,o478)::(nat_lit 438,o479)::(nat_lit 439,o480)::(nat_lit 441,o482)::(nat_lit 442,o483)::(nat_lit 444,o485)::(nat_lit 445,o486)::(nat_lit 446,o487)::(nat_lit 447,o488 P)::(nat_lit 448,o489)::(nat_lit 449,o490)::(nat_lit 450,o491)::(nat_lit 453,o496)::(nat_lit 456,o499)::(nat_lit 457,o500)::(nat_lit 458,o501)::(nat_lit 461,o504)::(nat_lit 462,o505)::(nat_lit 463,o506)::(nat_lit 466,o509)::(nat_lit 467,o510)::(nat_lit 468,o511)::(nat_lit 470,o513)::(nat_lit 471,o514)::(nat_lit 473,o516)::(nat_lit 474,o517)::(nat_lit 482,o527)::(nat_lit 484,o529)::(nat_lit 485,o530)::(nat_lit 487,o532)::(nat_lit 488,o533)::(nat_lit 489,o534)::(nat_lit 491,o536)::(nat_lit 492,o537)::(nat_lit 494,o539)::(nat_lit 495,o540)::(nat_lit 496,o541)::(nat_lit 498,o543)::(nat_lit 499,o544)::(nat_lit 501,o546)::(nat_lit 502,o547)::(nat_lit 503,o548)::(nat_lit 505,o550)::(nat_lit 506,o551)::(nat_lit 508,o553)::(nat_lit 509,o554)::(nat_lit 510,o555)::(nat_lit 513,o558)::(nat_lit 514,o559)::(nat_lit 515,o560)::(nat_lit 517,o562)::(nat_lit 518,o563)::(nat_lit 520,o565)::(nat_lit 521,o566)::(nat_lit 522,o567)::(nat_lit 524,o569)::(nat_lit 525,o570)::(nat_lit 527,o572)::(nat_lit 528,o573)::(nat_lit 529,o574)::(nat_lit 532,o577)::(nat_lit 533,o578)::(nat_lit 534,o579)::(nat_lit 536,o581)::(nat_lit 537,o582)::(nat_lit 539,o584)::(nat_lit 540,o585)::(nat_lit 541,o586)::(nat_lit 542,o587 P)::(nat_lit 543,o588)::(nat_lit 544,o589)::(nat_lit 545,o590)::(nat_lit 548,o595)::(nat_lit 551,o598)::(nat_lit 552,o599)::(nat_lit 553,o600)::(nat_lit 555,o602)::(nat_lit 556,o603)::(nat_lit 558,o605)::(nat_lit 559,o606)::(nat_lit 560,o607)::(nat_lit 562,o609)::(nat_lit 563,o610)::(nat_lit 565,o612)::(nat_lit 566,o613)::(nat_lit 567,o614)::(nat_lit 570,o617)::(nat_lit 571,o618)::(nat_lit 572,o619)::(nat_lit 575,o622)::(nat_lit 576,o623)::(nat_lit 577,o624)::(nat_lit 580,o627)::(nat_lit 581,o628)::(nat_lit 582,o629)::(nat_lit 585,o632)::(nat_lit 586,o633)::(nat_lit 587,o634)::(nat_lit 590,o637)::(nat_lit 591,o638)::(nat_lit 592,o639)::(nat_lit 594,o641)::(nat_lit 595,o642)::(nat_lit 597,o644)::(nat_lit 598,o645)::(nat_lit 599,o646)::(nat_lit 602,o649)::(nat_lit 603,o650)::(nat_lit 604,o651)::(nat_lit 606,o653)::(nat_lit 607,o654)::(nat_lit 609,o656)::(nat_lit 610,o657)::(nat_lit 611,o658)::(nat_lit 613,o660)::(nat_lit 614,o661)::(nat_lit 616,o663)::(nat_lit 617,o664)::(nat_lit 618,o665)::(nat_lit 621,o668)::(nat_lit 622,o669)::(nat_lit 623,o672)::(nat_lit 625,o674)::(nat_lit 626,o675)::(nat_lit 628,o677)::(nat_lit 629,o678)::(nat_lit 630,o679)::(nat_lit 633,o682)::(nat_lit 634,o683)::(nat_lit 635,o684)::(nat_lit 638,o687)::(nat_lit 639,o688)::(nat_lit 640,o689)::(nat_lit 643,o692)::(nat_lit 644,o693)::(nat_lit 645,o694)::(nat_lit 648,o697)::(nat_lit 649,o698)::[]
def kl:List Addr:=[2,3,15,17,18,20,21,22,29,30,31,32,35,42,43,44,47,54,55,56,59,66,67,68,71,78,79,80,83,90,91,92,95,102,103,104,107,114,115,116,119,126,127,128,131,138,139,140,143,150,151,152,155,162,163,164,167,174,176,177,179,180,181,182,183,186,193,195,196,198,199,200,201,202,205,212,214,215,217,218,219,220,221,224,226,227,229,230,231,233,234,236,237,238,241,242,243,245,246,248,249,250,252,253,255,256,257,259,260,262,263,271,272,274,275,277,278,279,281,282,284,285,286,288,289,291,292,293,295,296,298,299,300,302,303,305,306,307,309,310,312,313,314,316,317,319,320,321,323,324,326,327,328,329,330,331,332,335,337,338,340,341,342,344,345,347,348,349,351,352,354,355,363,364,367,368,369,371,372,374,375,376,378,379,381,382,383,385,386,388,389,390,392,393,395,396,397,399,400,402,403,404,406,407,409,410,411,413,414,416,417,418,420,421,423,424,425,427,428,430,431,432,434,435,437,438,439,441,442,444,445,446,447,448,449,450,453,456,457,458,461,462,463,466,467,468,470,471,473,474,482,484,485,487,488,489,491,492,494,495,496,498,499,501,502,503,505,506,508,509,510,513,514,515,517,518,520,521,522,524,525,527,528,529,532,533,534,536,537,539,540,541,542,543,544,545,548,551,552,553,555,556,558,559,560,562,563,565,566,567,570,571,572,575,576,577,580,581,582,585,586,587,590,591,592,594,595,597,598,599,602,603,604,606,607,609,610,611,613,614,616,617,618,621,622,623,625,626,628,629,630,633,634,635,638,639,640,643,644,645,648,649]
theorem kl_eq:∀ P,kl=(kk P).map (·.1):=by
 intro P
 kernel_rfl
abbrev hk:Hook:=kmHook kk kl kl_eq [535,646]
def xt (s:Shared):Bool:=xlAt vw [] s&&recOk (RowW.records (OpenRow.toRowW (OpenLaw.row PySem.Challenge.rw_roomward_k23_made_one))) s
theorem looks:∀ w:World,(λos=>((staticsOk (importedModules pp.main.body) (boot_heap w.params) (Hf w.params)&&namesBound pp (Hf w.params)&&gensDone (Hd.Sh Hf 1029 w os)&&laidKept (boot_heap w.params) (Hf w.params)),
  Hd.fSeen vw [] (importedModules pp.main.body) xt true (Hd.Sh Hf 1029 w os),hk.obs (Hd.Sh Hf 1029 w os)))=λ_=>(true,openGood vw [],hk.val w):=by
 intro w
 kernel_rfl
theorem aPj:[tp 0,tp 1,tp 2]++([tp 3]++([tp 4]++([tp 5]++([tp 6]++([tp 7]++([tp 8]++([tp 9]++([tp 10]++([tp 11]++([tp 12]++([tp 13]++([tp 14]++([tp 15]++([tp 16,tp 17,tp 18,tp 19,tp 20,tp 21,tp 22,tp 23,tp 24,tp 25]++([tp 26,tp 27,tp 28]++([tp 29]++([tp 30,tp 31,tp 32,tp 33,tp 34]++([tp 35]++([tp 36,tp 37,tp 38,tp 39,tp 40,tp 41]++([tp 42]++([tp 43,tp 44,tp 45,tp 46,tp 47,tp 48,tp 49,tp 50,tp 51,tp 52,tp 53,tp 54,tp 55,tp 56]++([tp 57,tp 58,tp 59,tp 60,tp 61]++[]))))))))))))))))))))))=behindTheImports pp:=by
 kernel_rfl
theorem left:LeftO pp vw [] xt hk.obs hk.val 11710 true:=
 Hd.left_of (by kernel_rfl) (λs=>by kernel_rfl) (by decide) (by decide) (Hd.top_run pre blk aPj (pc1.run (pc2.run (pc3.run (pc4.run (pc5.run (pc6.run (pc7.run (pc8.run (pc9.run (pc10.run (pc11.run (pc12.run (pc13.run (pc14.run (pc15.run (pc16.run (pc17.run (pc18.run (pc19.run (pc20.run (pc21.run (pc22.run (pc23.run fin.run)))))))))))))))))))))))) looks
end
end K23H
open PySem PySem.W PyProof.Rows
set_option maxRecDepth 100000 in
set_option maxHeartbeats 0 in
theorem PySem.Challenge.cw_roomward_k23_made_one_holds : PySem.Challenge.rw_roomward_k23_made_one.Holds := by
 w_on; o_law
 refine holds_open (q:=K23H.vw) (loose:=[]) (Xt:=K23H.xt) (XP:=XL K23H.vw [])
  (Yf:=Hook.obs (kmHook K23H.kk K23H.kl K23H.kl_eq [535,646])) (Ya:=Hook.val (kmHook K23H.kk K23H.kl K23H.kl_eq [535,646])) (YP:=Hook.says (kmHook K23H.kk K23H.kl K23H.kl_eq [535,646]))
  (N:=11710) K23H.left (Hook.of (kmHook K23H.kk K23H.kl K23H.kl_eq [535,646])) (Hook.keeps (kmHook K23H.kk K23H.kl K23H.kl_eq [535,646])) ?x XL.keeps (by rfl) (by rfl) (by rfl) ?f ?wr ?k1 ?ok ?b ?hw ?hc
 case x=>exact λs e=>xl_of s (Bool.and_eq_true_iff.mp e).1
 case f=>exact λs e=>recFacts_of (Bool.and_eq_true_iff.mp e).2
 case wr=>rfl
 case k1=>first
  | assumption
  | decide +kernel
 case ok=>decide +kernel
 case b=>exact⟨rfl,rfl,rfl,rfl,rfl,by decide +kernel⟩
 case hw=>w_witness2
 k_fill
 refine' K23.walk (c0:=648) (cR:=539) (l:=PySem.Challenge.rw_roomward_k23_made_one) 646 535 rfl rfl (by decide) (λw h Y=>⟨PySem.W.km_in_of Y,λp hp=>PySem.W.km_tabs_of Y p hp⟩) ?F ?hK
 case F=>
  intro w mg fa h KX G hmg
  refine' K23.all_mk KX G hmg ..
  any_goals first
   | exact⟨by k_is,L2.fun_mk (by k_is) (by k_is) (by k_is)⟩
   | exact⟨by k_is,L2.fun_mk (by k_is) (by k_is) (by k_is),by k_is⟩
   | k_is
   | kernel_rfl
 case hK=>
  intro w p hp;rcases List.mem_cons.mp hp with rfl | hp
  ·exact⟨by kernel_rfl,by kernel_rfl⟩
  rw[List.mem_singleton.mp hp];exact⟨by kernel_rfl,by kernel_rfl⟩
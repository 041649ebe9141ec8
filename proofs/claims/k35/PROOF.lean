import PyProof.Rows.All
import Wide.All
import OpenK.AllK
import Wide.FinOn
import Lean
import PyProof.EqAt
import PyProof.EqKinds
import PyProof.TupleCall
import PyProof.NeKinds
import PyProof.Rows.SetFrom
import PyProof.SetRoads
import PyProof.FactsAll.dict_keyiterator
import PyProof.DictIter
import PyProof.DictWalks
import KE.KDictSum
import PyProof.InstEq
import KE.KFmtOwn
import PyProof.ZipIter
import PyProof.Rows.ZipGen
import KE.KRevSl
import PyProof.SumWalk
import PyProof.SeqRoads2
import PySem.Challenge.RW_roomward_k35_told_machines
set_option Elab.async false
set_option linter.all false
set_option maxRecDepth 100000
set_option maxHeartbeats 4000000
set_option compiler.extract_closed false
noncomputable section
abbrev xPn:=List (PySem.Addr×PySem.Obj)
abbrev xVP:=PySem.Value->PySem.Shared->Prop
abbrev xOP:=Option PySem.Value->PySem.Shared->Prop
abbrev xSO:=PySem.Str->Option PySem.Value
abbrev xLL:=List (List PySem.Str)
abbrev xAO:=Array (Option PySem.Value)
namespace L2
open PySem PySem.Spec PySem.Calls PyProof.Rows PySem.W
abbrev xAa:=@List.length_map
abbrev xAb:=@PySem.W.Frag
abbrev xAc:=@wpAny_bind
abbrev xAd:=@List.getElem?_eq_some_iff
abbrev xAe:=@List.getElem?_eq_getElem
abbrev xAf:=@List.getElem?_map
abbrev xAg:=@of_decide_eq_true
abbrev xAh:=@PySem.W.mg_of
abbrev xAi:=@List.mem_singleton
abbrev xAj:=@Heap.get?_push_of_some
abbrev xAk:=@decide_eq_true
abbrev xAl:=@Nat.le_refl
abbrev xAm:=@List.map_append
abbrev xAn:=@Nat.le_trans
abbrev xAo:=@List.mem_cons
abbrev xAp:=@List.mem_map
abbrev xAq:=@wpAny_pure
abbrev xAr:=@List.length_append
abbrev xAs:=@Heap.lt_size
abbrev xAt:=@if_neg
abbrev xAu:=@if_pos
abbrev xAv:=@Bool.false_ne_true
abbrev xAw:=@Heap.get?_push_size
abbrev xAx:=@List.take_length
abbrev xAy:=@Or.inl
abbrev xAz:=@absurd
abbrev xBa:=@List.mem_of_getElem?
abbrev xBb:=@decide_eq_false
abbrev xBc:=@Nat.lt_of_lt_of_le
abbrev xBd:=@List.size_toArray
abbrev xBe:=@List.length_take
abbrev xBf:=@List.take_succ
abbrev xBg:=@List.mem_cons_of_mem
abbrev xBh:=@Bool.and_eq_true
abbrev xBi:=@Nat.ne_of_lt
abbrev xBj:=@List.all_eq_true
abbrev xBk:=@List.mem_cons_self
abbrev xBl:=@List.getD_eq_getElem?_getD
abbrev xBm:=@List.length_cons
abbrev xBn:=@List.mem_append_right
abbrev xBo:=@List.append_nil
abbrev xBp:=@PyProof.Rows.sortedS
abbrev xBq:=@PySem.F.plainAttrs_list
abbrev xBr:=@Nat.zero_le
abbrev xBs:=@List.mem_flatMap
abbrev xBt:=@Option.some.inj
abbrev xBu:=@List.length_range
abbrev xBv:=@PySem.Spec.ltCps
abbrev xBw:=@PySem.W.mg_none_of
abbrev xBx:=@List.mem_filter
abbrev xBy:=@List.mem_append
abbrev xBz:=@List.getElem?_append_left
abbrev xCa:=@List.map_cons
abbrev xCb:=@Bool.eq_false_iff
abbrev xCc:=@Nat.lt_of_le_of_lt
abbrev xCd:=@List.mem_filterMap
abbrev xCe:=@List.length_filter_le
abbrev xCf:=@List.getElem?_append_right
abbrev xCg:=@List.getElem_mem
abbrev xCh:=@List.mem_range
abbrev xCi:=@Option.isSome_iff_exists
abbrev xCj:=@wpAny_truthy_bool
abbrev xCk:=@List.pairwise_map
abbrev xCl:=@List.getElem?_eq_none_iff
abbrev xCm:=@List.find?_cons
abbrev xCo:=@wpAny_Call_Name_kw
abbrev xCp:=@PySem.W.kia_one
abbrev xCq:=@decide_eq_decide
abbrev xCr:=@wpAny_mono
abbrev xCs:=@beq_eq_false_iff_ne
abbrev xCt:=@List.mem_of_find?_eq_some
abbrev xCu:=@List.range_succ
abbrev xCv:=@List.Pairwise.imp_of_mem
abbrev xCw:=@List.filter_cons
abbrev xCx:=@wpAny_seqItems
abbrev xCy:=@List.map_map
abbrev xCz:=@wpAny_newObj_type
abbrev xDa:=@List.getElem?_inj
abbrev xDb:=@List.nodup_cons
abbrev xDc:=@Bool.eq_iff_iff
abbrev xDd:=@Array.length_toList
abbrev xDe:=@PySem.F.plain_max_loop
abbrev xDf:=@List.filterMap_append
abbrev xDg:=@wpAny_field
abbrev xDh:=@List.drop_eq_getElem_cons
abbrev xDi:=@PySem.F.slot_tuple_iterator_next
abbrev xDj:=@List.mem_append_left
abbrev xDk:=@List.getElem?_of_mem
abbrev xDl:=@Bool.and_eq_true_iff
abbrev xDm:=@PySem.F.type_list_append
abbrev xDn:=@PySem.F.slot_list_append
abbrev xDo:=@List.length_filterMap_le
abbrev xDp:=@Int.toNat_natCast
abbrev xDq:=@Nat.lt_irrefl
abbrev xDr:=@List.any_cons
abbrev xDs:=@wpAny_call_entry
abbrev xDt:=@List.any_eq_true
abbrev xDu:=@Heap.size_push
abbrev xDv:=@Option.map_eq_some_iff
abbrev xDw:=@wpAny_setField_rec
abbrev xDx:=@decide_eq_true_iff
abbrev xDy:=@PySem.W.callWith_K
abbrev xDz:=@List.filter_append
abbrev xEa:=@Calls.spliced_cons
abbrev xEb:=@wpAny_passesOwn
abbrev xEc:=@PySem.W.methodCall_KW
abbrev xEd:=@PyProof.Rows.callWith_type1
abbrev xEe:=@List.length_replicate
abbrev xEf:=@Array.getElem?_toList
abbrev xEg:=@List.mem_iff_getElem
abbrev xEh:=@Nat.le_add_right
abbrev xEi:=@List.replicate_succ
abbrev xEj:=@List.length_reverse
abbrev xEk:=@List.getElem?_range
abbrev xEl:=@List.filterMap_cons
abbrev xEm:=@PySem.F.type_list_extend
abbrev xEn:=@PySem.F.slot_list_extend
abbrev xEo:=@List.length_nil
abbrev xEp:=@List.pairwise_lt_range
abbrev xEq:=@Heap.get?_update_other
abbrev xEr:=@Bool.false_and
abbrev xEs:=@PySem.F.slot_zip_next
abbrev xEt:=@Or.inr
abbrev xEu:=@Nat.le_of_lt
abbrev xEv:=@List.getElem?_toArray
abbrev xEw:=@Int.zero_add
abbrev xEx:=@Heap.get?_update_self
abbrev xEy:=@wpAny_typeNameOfWhole_keyiter
abbrev xEz:=@List.lookup_cons
abbrev xFa:=@List.cons_append
abbrev xFb:=@wpAny_holding
abbrev xFc:=@Bool.true_and
abbrev xFd:=@wpAny_letGo
abbrev xFe:=@PySem.W.hideAll_get
abbrev xFf:=@List.length_zipWith
abbrev xFg:=@List.idxOf_lt_length_of_mem
abbrev xFh:=@Heap.SameBut.update
abbrev xFi:=@codeAny_mono
abbrev xFj:=@Nat.sub_self
abbrev xFk:=@List.find?_eq_none
abbrev xFl:=@wpAny_typeNameOf_keyiter
abbrev xFm:=@wpAny_pyIter_list
abbrev xFn:=@wpAny_call
abbrev xFp:=@Option.isSome_map
abbrev xFr:=@List.length_erase_of_mem
abbrev xFs:=@List.flatten_cons
abbrev xFt:=@List.Pairwise.imp
abbrev xFu:=@List.Nodup.idxOf_getElem
abbrev xFw:=@List.all_cons
abbrev xFx:=@List.zipWith_cons_cons
abbrev xFy:=@Calls.callWith_builtin
abbrev xFz:=@wpAny_execs_nil
abbrev xGa:=@PySem.F.slot_dict_get
abbrev xGb:=@Option.map_some
abbrev xGc:=@Nat.ne_of_gt
abbrev xGd:=@List.of_mem_zip
abbrev xGe:=@List.length_singleton
abbrev xGf:=@List.getElem?_eq_none
abbrev xGg:=@List.forIn_cons
abbrev xGh:=@List.foldl_cons
abbrev xGi:=@List.filter_nil
abbrev xGj:=@wpAny_updateSeq_pair
abbrev xGk:=@codeAny_call_builtin
abbrev xGl:=@Calls.evalArgs_plain
abbrev xGm:=@Bool.or_eq_false_iff
abbrev xGn:=@wpAny_tryCatch
abbrev xGo:=@wpAny_setField
abbrev xGp:=@PySem.W.plainGet_of
abbrev xGq:=@Nat.mul_le_mul_left
abbrev xGr:=@Nat.le_succ
abbrev xGs:=@List.take_succ_cons
abbrev xGt:=@List.map_congr_left
abbrev xGu:=@List.flatMap_append
abbrev xGv:=@PySem.F.args_tuple_iterator_next_1
abbrev xGw:=@wpAny_standAt
abbrev xGx:=@wpAny_onRaise
abbrev xGy:=@PySem.W.of_hideAll
abbrev xGz:=@PySem.F.entry_tuple_iterator_next
abbrev xHb:=@wpAny_rule
abbrev xHc:=@beq_iff_eq
abbrev xHd:=@Nat.lt_of_succ_lt
abbrev xHe:=@List.take_sublist
abbrev xHf:=@List.nodup_append
abbrev xHg:=@List.ext_getElem?
abbrev xHh:=@List.append_assoc
abbrev xHi:=@List.Pairwise.nil
abbrev xHj:=@Calls.spliced_nil
abbrev xHk:=@List.map_nil
abbrev xHl:=@List.all_map
abbrev xHm:=@wpAny_execs_cons
abbrev xHn:=@Nat.lt_succ_self
abbrev xHo:=@List.drop_length
abbrev xHp:=@List.cons_ne_nil
abbrev xHq:=@wpAny_updateSeq
abbrev xHr:=@wpAny_of_eq
abbrev xHs:=@List.nil_append
abbrev xHt:=@List.find?_some
abbrev xHu:=@List.all_append
abbrev xHv:=@wpAny_newFunctionEnv_cells
abbrev xHw:=@List.perm_ext_iff_of_nodup
abbrev xHx:=@List.rel_of_pairwise_cons
abbrev xHy:=@List.forIn_nil
abbrev xHz:=@Array.getElem?_eq_getElem
abbrev xIa:=@wpAny_comprehension_free
abbrev xIb:=@List.filterMap_cons_some
abbrev xIc:=@List.filterMap_cons_none
abbrev xId:=@wpAny_attempt
abbrev xIe:=@PySem.F.type_list_index
abbrev xIf:=@PySem.F.slot_list_index
abbrev xIg:=@PySem.F.args_zip_next_1
abbrev xIh:=@PySem.F.args_dict_get_2
abbrev xIi:=@List.length_eq_zero_iff
abbrev xIj:=@List.getElem?_replicate
abbrev xIk:=@List.cons.inj
abbrev xIl:=@Int.ofNat.inj
abbrev xIm:=@Bool.or_false
abbrev xIn:=@Bool.and_true
abbrev xIo:=@wpAny_pyNext_list_item
abbrev xIp:=@PySem.W.cellsFrom_some
abbrev xIq:=@PySem.F.entry_zip_next
abbrev xIr:=@PySem.F.entry_max_loop
abbrev xIs:=@PySem.F.entry_dict_get
abbrev xIt:=@List.length_pos_of_mem
abbrev xIu:=@List.getElem?_set_self
abbrev xIv:=@Array.getElem?_eq_none
abbrev xIw:=@wpAny_pyNext_list_end
abbrev xIx:=@wpAny_isTrue_Compare1
abbrev xIy:=@wpAny_isOneOf_keyiter
abbrev xIz:=@codeAny_call_function
abbrev xJa:=@List.pairwise_flatMap
abbrev xJb:=@List.getElem?_reverse
abbrev xJc:=@List.any_map
abbrev xJd:=@List.Pairwise.of_cons
end L2
namespace L2
open PySem PySem.Spec PyProof.Rows PySem.W

abbrev Key:=Sum Int Str
def rV:Key->Value->Bool
 | .inl k,v=>Value.isInt k v
 | .inr x,v=>Value.isStrOf x v
def aXq (w:World):Key->Int
 | .inl k=>hashInt k
 | .inr x=>hashStr w x
theorem dW:∀ {k:Key}{v:Value},rV k v=true->(∃ i t,k=Sum.inl i/\v=Value.int i t)\/(∃ x t,k=Sum.inr x/\v=Value.str x t)
 | .inl i,v,h=>by
  obtain⟨t,e⟩:=Value.isInt_shape (k:=i) (v:=v) h;exact .inl ⟨i,t,rfl,e⟩
 | .inr x,v,h=>by
  obtain⟨t,e⟩:=Value.isStrOf_shape (x:=x) (v:=v) h;exact .inr ⟨x,t,rfl,e⟩
theorem aGz (i:Int)(t:Tok):rV (.inl i) (.int i t)=true:=by simp[rV,Value.isInt]
theorem aGy (x:Str)(t:Tok):rV (.inr x) (.str x t)=true:=by simp[rV,Value.isStrOf]
theorem aRx (a b:Int):decide ((Sum.inl a:Key)=Sum.inl b)=(a==b):=by
 by_cases e:a=b
 ·subst e; simp
 ·have h:¬ (Sum.inl a:Key)=Sum.inl b:=λq=>e (Sum.inl.inj q);rw[xBb h];exact (xCs.mpr e).symm
theorem aRt (a b:Str):decide ((Sum.inr a:Key)=Sum.inr b)=decide (a=b):=by
 by_cases e:a=b
 ·subst e; simp
 ·have h:¬ (Sum.inr a:Key)=Sum.inr b:=λq=>e (Sum.inr.inj q);rw[xBb h,xBb e]
theorem aRw (a:Int)(b:Str):decide ((Sum.inl a:Key)=Sum.inr b)=false:=xBb (λq=>nomatch q)
theorem aRv (a:Str)(b:Int):decide ((Sum.inr a:Key)=Sum.inl b)=false:=xBb (λq=>nomatch q)

def dS (prog:Program)(w:World):PySem.KeyKind prog w Key where
 is:=rV
 hash:=aXq w
 inj:=λv a b ha hb=>by
  rcases dW ha with⟨i,t,rfl,rfl⟩ | ⟨x,t,rfl,rfl⟩
  ·rcases dW hb with⟨j,u,rfl,e⟩ | ⟨y,u,rfl,e⟩
   ·injection e with e1 _; rw[e1]
   ·exact nomatch e
  ·rcases dW hb with⟨j,u,rfl,e⟩ | ⟨y,u,rfl,e⟩
   ·exact nomatch e
   ·injection e with e1 _; rw[e1]
 byValue:=λk v h=>by
  rcases dW h with⟨i,t,rfl,rfl⟩ | ⟨x,t,rfl,rfl⟩ <;> rfl
 pyHash:=λhv h=>by
  rcases dW hv with⟨i,t,rfl,rfl⟩ | ⟨x,t,rfl,rfl⟩
  ·exact wpAny_pyHash_int h
  ·exact wpAny_pyHash_str h
 eqBool:=λhu hv h=>by
  rcases dW hu with⟨i,t,rfl,rfl⟩ | ⟨x,t,rfl,rfl⟩
  ·rcases dW hv with⟨j,u,rfl,rfl⟩ | ⟨y,u,rfl,rfl⟩
   ·rw[aRx] at h; exact wpAny_eqBool_int h
   ·rw[aRw] at h; exact SeqAt.EqAt.int_str i t y u _ _ _ _ h
  ·rcases dW hv with⟨j,u,rfl,rfl⟩ | ⟨y,u,rfl,rfl⟩
   ·rw[aRv] at h; exact SeqAt.EqAt.str_int x t j u _ _ _ _ h
   ·rw[aRt] at h; exact wpAny_eqBool_str h
 «strs»:=λk x t v h=>by
  rcases dW h with⟨i,u,rfl,e⟩ | ⟨y,u,rfl,e⟩
  ·exact nomatch e
  ·injection e with e1 _;subst e1;cases v <;> rfl

theorem zY (prog:Program)(w:World)(i:Int)(t:Tok):(dS prog w).is (.inl i) (.int i t)=true:=aGz i t
theorem zX (prog:Program)(w:World)(x:Str)(t:Tok):(dS prog w).is (.inr x) (.str x t)=true:=aGy x t

inductive V where
 | non | bl (b:Bool) | int (i:Int) | str (x:Str) | byt (b:Array UInt8) | flt (b:UInt64) | ref (a:Addr) | ty (n:String)
 deriving DecidableEq

def cO:V->Value->Prop
 | .non,u=>u=Value.none
 | .bl b,u=>u=Value.bool b
 | .int i,u=>∃ t,u=Value.int i t
 | .str x,u=>∃ t,u=Value.str x t
 | .byt b,u=>∃ t,u=Value.bytes b t
 | .flt b,u=>∃ t,u=Value.float b t
 | .ref a,u=>u=Value.ref a
 | .ty n,u=>u=Value.type n

abbrev cH:List V->List Value->Prop:=Paired cO
theorem cH.length {xs:List V}{us:List Value}(r:cH xs us):xs.length=us.length:=Paired.length r
theorem cH.get:∀ {xs:List V}{us:List Value}{i:Nat}{x:V},cH xs us->xs[i]?=some x->∃ u,us[i]?=some u/\cO x u
 | _,_,_,_,.nil,e=>by simp at e
 | _,_,0,_,.cons r _,e=>by simp at e; subst e; exact⟨_,rfl,r⟩
 | _,_,i+1,x,.cons _ t,e=>by
  obtain⟨u,h1,h2⟩:=cH.get (i:=i) (x:=x) t (by simpa using e);exact⟨u,by simpa using h1,h2⟩
theorem cH.append:∀ {xs ys:List V}{us ws:List Value},cH xs us->cH ys ws->cH (xs++ys) (us++ws)
 | _,_,_,_,.nil,s=>s
 | _,_,_,_,.cons r t,s=>.cons r (cH.append t s)

def lJ:Option V->Option Value->Prop
 | some v,some u=>cO v u
 | none,none=>True
 | _,_=>False
def KV {κ:Type}:List (κ×V)->List (κ×Value)->Prop:=Paired λ(p:κ×V) (q:κ×Value)=>p.1=q.1/\cO p.2 q.2

def kV:Key->V
 | .inl i=>.int i
 | .inr x=>.str x

inductive HO where
  | lst (xs:List V)
  | tup (xs:List V)
  | dK (kvs:List (Key×V)) | dT (kvs:List (List Key×V))
  | set (S:Int->Bool) (n:Nat)
  | ins (C dx:Addr) (fs:List (Str×V))
  | own (x:Addr)
  | xd (fs:List (Str×V))
  | met (f x:Addr)
  | rng (lo hi:Int)
  | frz (o:Obj) (u:HO)
  | tbl (ps:Array Value)
  | ext (φ:Heap->Prop)

abbrev Hp:=Addr->Option HO
def upd (H:Hp)(a:Addr)(o:HO):Hp:=λb=>if b=a then some o else H b
theorem aE {H:Hp}{a:Addr}{o:HO}:upd H a o a=some o:=by unfold upd; rw[xAu rfl]
theorem aL {H:Hp}{a b:Addr}{o:HO}(h:b≠a):upd H a o b=H b:=by unfold upd; rw[xAt h]
theorem gQ {H:Hp}{a b:Addr}{o u:HO}(h:H a=some o)(h':H b=some u)(d:o≠u):a≠b:=by
 intro e; subst e; rw[h] at h'; exact d (xBt h')
theorem aI {H:Hp}{a b:Addr}{o:HO}(h:H a=some o)(h':H b=none):a≠b:=by
 intro e; subst e; rw[h] at h'; cases h'

section
variable (P:Program) (w:World)
def dP (H:Hp)(h:Heap)(a:Addr):HO->Prop
 | .lst xs=>xs.length<=sizeLine/\∃ (its:List Value) (n:Nat),cH xs its/\h.get? a=some { cls:=.type "list",data:=.seq its.toArray n }
 | .tup xs=>xs.length<=sizeLine/\∃ its:List Value,cH xs its/\IsTup h a its.toArray
 | .dK kvs=>kvs.length<=sizeLine/\(a==sysModules)=false/\∃ vs,KV kvs vs/\h.DictOf (dS P w) a vs
 | .dT kvs=>kvs.length<=sizeLine/\(a==sysModules)=false/\∃ xs:List (List Key×Addr×Value),
   Paired (λ(p:List Key×V) (q:List Key×Addr×Value)=>p.1=q.1/\H q.2.1=some (.tup (p.1.map kV))/\cO p.2 q.2.2) kvs xs /\
   ∃ o es ep,h.get? a=some o/\o.ExactDict/\o.data=.dict es ep/\es.toList=xs.map (entryOfKey (tupleKind (dS P w)))/\(xs.map (·.1)).Nodup
 | .set S n=>h.SetOf (intKind P w) a S n
 | .ins C dx fs=>H dx=some (.own a)/\fs.length<=1000/\dx≠a/\h.get? a=some (instObj C dx) /\
   ∃ mA,h.Ns1 dx mA/\(∀ f,lJ (fs.lookup f) (mA f))/\PySem.Within mA (fs.map (·.1))
 | .own _=>∃ o,h.get? a=some o
 | .xd fs=>∃ mA,h.Ns1 a mA/\∀ f,lJ (fs.lookup f) (mA f)
 | .rng lo hi=>∃ t u v,h.get? a=some { cls:=.type "range",data:=.fields #[.int lo t,.int hi u,.int 1 v] }
 | .frz o u=>h.get? a=some o/\dP H h a u
 | .tbl ps=>h.get? a=some { cls:=.none,data:=.fields ps }
 | .met f x=>h.get? a=some (methodObj (.ref f) (.ref x))
 | .ext φ=>φ h/\(∃ o,h.get? a=some o)/\∀ h1 h2:Heap,φ h1->(∀ o,h1.get? a=some o->h2.get? a=some o)->φ h2
def HOk (H:Hp)(h:Heap):Prop:=∀ a o,H a=some o->dP P w H h a o
end

section
variable {P:Program}{w:World}{H H':Hp}{h h':Heap}{a:Addr}{o:HO}
theorem dP.lt (x:dP P w H h a o):a<h.objs.size:=by
 cases o with
 | lst xs=>obtain⟨_,_,_,_,e⟩:=x; exact xAs e
 | tup xs=>obtain⟨_,_,_,p⟩:=x; exact p.lt
 | dK kvs=>obtain⟨_,_,_,_,o,_,_,e,_⟩:=x; exact xAs e
 | dT kvs=>obtain⟨_,_,_,_,o,_,_,e,_⟩:=x; exact xAs e
 | set S n=>obtain⟨o,_,_,_,e,_⟩:=x; exact xAs e
 | ins C dx fs=>obtain⟨_,_,_,e,_⟩:=x; exact xAs e
 | own y=>obtain⟨_,e⟩:=x; exact xAs e
 | xd fs=>obtain⟨_,⟨_,_,_,e,_⟩,_⟩:=x; exact xAs e
 | rng lo hi=>obtain⟨_,_,_,e⟩:=x; exact xAs e
 | frz ob u=>obtain⟨e,_⟩:=x; exact xAs e
 | tbl ps=>exact xAs (show h.get? a=some _ from x)
 | met f y=>exact xAs (show h.get? a=some _ from x)
 | ext φ=>obtain⟨_,⟨_,e⟩,_⟩:=x; exact xAs e
theorem Paired.mapP {α β:Type}{F G:α->β->Prop}:∀ {l₁:List α}{l₂:List β},Paired F l₁ l₂->(∀ a b,F a b->G a b)->Paired G l₁ l₂
 | _,_,.nil,_=>.nil
 | _,_,.cons r t,f=>.cons (f _ _ r) (Paired.mapP t f)
theorem dP.stay (x:dP P w H h a o)(k:∀ b u,(b=a\/H b=some (.own a))->h.get? b=some u->h'.get? b=some u)
  (ho:∀ b,H b=some (.own a)->H' b=some (.own a))(ht:∀ b xs,H b=some (.tup xs)->H' b=some (.tup xs)):dP P w H' h' a o:=by
 induction o with
 | lst xs=>obtain⟨z,its,n,r,e⟩:=x; exact⟨z,its,n,r,k _ _ (.inl rfl) e⟩
 | tup xs=>obtain⟨z,its,r,ob,e,c⟩:=x; exact⟨z,its,r,ob,k _ _ (.inl rfl) e,c⟩
 | dK kvs=>obtain⟨z,y,vs,r,ob,es,ep,e,c⟩:=x; exact⟨z,y,vs,r,ob,es,ep,k _ _ (.inl rfl) e,c⟩
 | dT kvs=>
  obtain⟨z,y,xs,r,ob,es,ep,e,c⟩:=x;exact⟨z,y,xs,Paired.mapP r λp q z=>⟨z.1,ht _ _ z.2.1,z.2.2⟩,ob,es,ep,k _ _ (.inl rfl) e,c⟩
 | set S n=>obtain⟨ob,es,ep,t,e,c⟩:=x; exact⟨ob,es,ep,t,k _ _ (.inl rfl) e,c⟩
 | ins C dx fs=>
  obtain⟨d,z,ne,e,mA,⟨od,es,ep,e2,c⟩,r⟩:=x;exact⟨ho _ d,z,ne,k _ _ (.inl rfl) e,mA,⟨od,es,ep,k _ _ (.inr d) e2,c⟩,r⟩
 | own y=>obtain⟨ob,e⟩:=x; exact⟨ob,k _ _ (.inl rfl) e⟩
 | xd fs=>obtain⟨mA,⟨od,es,ep,e,c⟩,r⟩:=x; exact⟨mA,⟨od,es,ep,k _ _ (.inl rfl) e,c⟩,r⟩
 | rng lo hi=>obtain⟨t,u,v,e⟩:=x; exact⟨t,u,v,k _ _ (.inl rfl) e⟩
 | frz ob u ih=>obtain⟨e,q⟩:=x; exact⟨k _ _ (.inl rfl) e,ih q⟩
 | tbl ps=>
  have e:h.get? a=some { cls:=.none,data:=.fields ps }:=x;show h'.get? a=some { cls:=.none,data:=.fields ps };exact k a _ (.inl rfl) e
 | met f y=>
  have e:h.get? a=some (methodObj (.ref f) (.ref y)):=x;show h'.get? a=some (methodObj (.ref f) (.ref y));exact k a _ (.inl rfl) e
 | ext φ=>obtain⟨p,⟨o,e⟩,st⟩:=x; exact⟨st _ _ p λo q=>k _ _ (.inl rfl) q,⟨o,k _ _ (.inl rfl) e⟩,st⟩
theorem HOk.lt (x:HOk P w H h)(e:H a=some o):a<h.objs.size:=(x a o e).lt
theorem HOk.fresh (x:HOk P w H h)(e:h.objs.size<=a):H a=none:=by
 cases q:H a with
 | none=>rfl
 | some u=>exact xAz (xBc (x.lt q) e) (xDq _)
theorem HOk.kept (x:HOk P w H h)(k:∀ b u,h.get? b=some u->h'.get? b=some u):HOk P w H h':=λa o e=>
 (x a o e).stay (λb u _ q=>k b u q) (λ_ q=>q) λ_ _ q=>q
theorem HOk.laid (x:HOk P w H h)(k:∀ b u,h.get? b=some u->h'.get? b=some u)(hp:h.objs.size<=a)(new:dP P w (upd H a o) h' a o):HOk P w (upd H a o) h':=λb u e=>by
 have hn:=x.fresh hp
 by_cases hb:b=a
 ·subst hb; rw[aE] at e; cases e; exact new
 ·rw[aL hb] at e;exact (x b u e).stay (λc v _ q=>k c v q) (λc q=>by rw[aL (aI q hn)]; exact q) λc xs q=>by rw[aL (aI q hn)]; exact q
end

def Rd (H:Hp)(a:Addr)(u:HO):Prop:=H a=some u\/∃ o,H a=some (.frz o u)
theorem Rd.ok {P:Program}{w:World}{H:Hp}{h:Heap}{a:Addr}{u:HO}(r:Rd H a u)(x:HOk P w H h):dP P w H h a u:=by
 rcases r with r | ⟨o,r⟩
 ·exact x a u r
 ·obtain⟨_,q⟩:=x a _ r;exact q
def Mut:Option HO->Prop
 | some (.lst _)=>True
 | some (.dK _)=>True
 | some (.dT _)=>True
 | some (.set _ _)=>True
 | some (.ins _ _ _)=>True
 | some (.ext _)=>True
 | _=>False
section
variable {P:Program}{w:World}{H:Hp}{h h':Heap}{x e:Addr}{o':HO}
theorem HOk.write (ok:HOk P w H h)(mu:Mut (H x))(he:e=x\/H e=some (.own x))(k:∀ b u,b≠e->h.get? b=some u->h'.get? b=some u)(heo:∃ u,h'.get? e=some u)
  (new:dP P w (upd H x o') h' x o'):HOk P w (upd H x o') h':=λb u q=>by
 have nown:∀ c y,H c=some (.own y)->c≠x:=λc y r z=>by subst z; rw[r] at mu; exact mu
 have ntup:∀ c xs,H c=some (.tup xs)->c≠x:=λc xs r z=>by subst z; rw[r] at mu; exact mu
 by_cases hb:b=x
 ·subst hb; rw[aE] at q; cases q; exact new
 ·rw[aL hb] at q
  by_cases hbe:b=e
  ·have q':H b=some (.own x):=by
    rcases he with z | z
    ·exact xAz (hbe.trans z) hb
    ·rw[hbe]; exact z
   rw[q] at q'; cases q';obtain⟨v,hv⟩:=heo;exact⟨v,by rw[hbe]; exact hv⟩
  ·refine (ok b u q).stay (λc v hc r=>k c v ?_ r) (λc r=>by rw[aL (nown c b r)]; exact r) λc xs r=>by rw[aL (ntup c xs r)]; exact r
   rcases hc with rfl | hc
   ·exact hbe
   ·rintro rfl;rcases he with z | z
    ·exact nown c b hc z
    ·rw[hc] at z; cases z; exact hb rfl
end

structure Un (fs ex:List Addr)(H H':Hp)(h h':Heap):Prop where
 keep:∀ b o,h.get? b=some o->H b=none->b∉fs->b∉ex->h'.get? b=some o
 slot:∀ b o,h.get? b=some o->H b=none->b∈fs->b∉ex->∃ sl,h'.get? b=some { o with slots:=sl }
 free:∀ b o,h.get? b=some o->H b=none->b∉ex->H' b=none
 there:∀ b o,h.get? b=some o->b∉ex->∃ o',h'.get? b=some o'
 tups:∀ b xs,H b=some (.tup xs)->H' b=some (.tup xs)
 frzs:∀ b o u,H b=some (.frz o u)->H' b=some (.frz o u)
 tbls:∀ b ps,H b=some (.tbl ps)->∃ more,H' b=some (.tbl (ps++more))
section
variable {fs fs' ex ex':List Addr}{H H1 H2:Hp}{h h1 h2 h':Heap}{a x e:Addr}{o:HO}
theorem Un.any (u:Un fs ex H H1 h h1){b:Addr}{ob:Obj}(q:h.get? b=some ob)(n:H b=none)(hx:b∉ex):∃ sl,h1.get? b=some { ob with slots:=sl }:=by
 by_cases hb:b∈fs
 ·exact u.slot b ob q n hb hx
 ·exact⟨ob.slots,u.keep b ob q n hb hx⟩
theorem Un.kept (k:∀ b u,h.get? b=some u->h'.get? b=some u):Un fs ex H H h h':=
 ⟨λb ob q _ _ _=>k b ob q,λb ob q _ _ _=>⟨ob.slots,k b ob q⟩,λ_ _ _ n _=>n,λb ob q _=>⟨ob,k b ob q⟩,λ_ _ q=>q,λ_ _ _ q=>q,λ_ ps q=>⟨#[],by rw[q]; simp⟩⟩
theorem Un.refl:Un fs ex H H h h:=Un.kept λ_ _ q=>q
theorem Un.laid (k:∀ b u,h.get? b=some u->h'.get? b=some u)(hp:h.objs.size<=a)(hn:H a=none):Un fs ex H (upd H a o) h h' where
 keep:=λb u q _ _ _=>k b u q
 slot:=λb u q _ _ _=>⟨u.slots,k b u q⟩
 free:=λb u q n _=>by rw[aL (xBi (xBc (xAs q) hp))]; exact n
 there:=λb u q _=>⟨u,k b u q⟩
 tups:=λb xs q=>by rw[aL (aI q hn)]; exact q
 frzs:=λb u xs q=>by rw[aL (aI q hn)]; exact q
 tbls:=λb ps q=>⟨#[],by rw[aL (aI q hn),q]; simp⟩
theorem Un.write (mu:Mut (H x))(he:e=x\/H e=some (.own x))(k:∀ b u,b≠e->h.get? b=some u->h'.get? b=some u)(heo:∃ u,h'.get? e=some u):Un fs ex H (upd H x o) h h':=by
 have hx:∀ b,H b=none->b≠x:=λb n z=>by subst z; rw[n] at mu; exact mu
 have hb:∀ b,H b=none->b≠e:=λb n z=>by
  subst z;rcases he with r | r
  ·exact hx b n r
  ·rw[n] at r; cases r
 have hm:∀ b u,H b=some u->¬ Mut (some u)->b≠x:=λb u q nm z=>by subst z; rw[q] at mu; exact nm mu
 refine⟨λb u q n _ _=>k b u (hb b n) q,λb u q n _ _=>⟨u.slots,k b u (hb b n) q⟩,λb u q n _=>by rw[aL (hx b n)]; exact n,λb u q _=>?_,
  λb xs q=>by rw[aL (hm b _ q λz=>z)]; exact q,λb u xs q=>by rw[aL (hm b _ q λz=>z)]; exact q,λb ps q=>⟨#[],by rw[aL (hm b _ q λz=>z),q]; simp⟩⟩
 by_cases hbe:b=e
 ·subst hbe; exact heo
 ·exact⟨u,k b u hbe q⟩
end

def trk (h:Heap)(H:Hp):List Addr:=(List.range h.objs.size).filter λa=>(H a).isSome
def xT (h:Heap)(H:Hp):Heap:=hideAll h (trk h H)
theorem aHc (h:Heap)(H:Hp):(xT h H).objs.size=h.objs.size:=hideAll_size _ _
theorem uD {h:Heap}{H:Hp}{b:Addr}{o:Obj}(e:h.get? b=some o)(n:H b=none):(xT h H).get? b=some o:=
 xFe _ e λhm=>by
  have q:(H b).isSome=true:=(xBx.mp hm).2;rw[n] at q; simp at q
theorem aOa {h:Heap}{H:Hp}{b:Addr}{o:Obj}(e:(xT h H).get? b=some o):h.get? b=some o/\H b=none:=by
 have e':h.get? b=some o:=xGy (trk h H) e;refine⟨e',?_⟩;cases q:H b with
 | none=>rfl
 | some x=>
  have hm:b∈trk h H:=xBx.mpr ⟨xCh.mpr (xAs e'),by simp[q]⟩;have z:(xT h H).get? b=none:=hideAll_none (trk h H) hm;rw[z] at e; cases e


structure Mod (K:xAb)(mg:xSO)(base:Heap):Prop where
 kin:K.In base
 glob:base.Ns mainGlobals mg
 blt:∃ mb,base.Ns builtinsNs mb/\∀ x:Str,x≠"__name__" -> mb x=bootBuiltins x
 nolimit:base.NoLimit

structure Cx where
 prog:Program
 w:World
 K:xAb
 mg:Str->Option Value
 base:Heap
 A:Around
 N:List Str
 s₀:Shared
 H₀:Hp
 env:Env
 outer:List Env
 stack:List Env
 ex:List Addr
 fn:Str->Bool
 calm:Bool
 pn:List (Addr×Obj)
 xe:Value->Shared->Prop
def frs (l:List Env):List Addr:=l.filterMap (·.frame)
abbrev Cx.fs (X:Cx):List Addr:=frs X.outer

def Vis (sc:Scope)(x:Str):Prop:=sc.names.lookup x=some .local\/sc.names.lookup x=some .cell\/sc.names.lookup x=some .free
def Loc (sc:Scope)(x:Str):Prop:=sc.names.lookup x=some .local\/sc.names.lookup x=some .cell
def aYc (env:Env)(h:Heap)(m:xSO)(x:Str)(u:Value):Prop:=
 (env.kindOf x=some .local/\m x=some u)\/((env.kindOf x=some .cell\/env.kindOf x=some .free)/\∃ c,env.cells.lookup x=some c/\h.IsCell c (some u))

structure Cx.Ok (X:Cx):Prop where
 mod:Mod X.K X.mg X.base
 kind:X.env.scope.kind=.function
 glob:X.env.globals=mainGlobals
 blt:X.env.builtins=builtinsNs
 above:X.s₀.heap.objs.size<=X.env.locals
 inj:∀ x y c,X.env.cells.lookup x=some c->X.env.cells.lookup y=some c->x=y
 has:∀ x,(X.env.kindOf x=some .cell\/X.env.kindOf x=some .free)->∃ c,X.env.cells.lookup x=some c
 cab:∀ x c,X.fn x=true->X.env.cells.lookup x=some c->X.s₀.heap.objs.size<=c
 hd:X.calm=true->X.A.handled=none
 frames:X.A.frames=some X.stack
 stk:X.stack=X.outer\/(X.stack=X.env::X.outer/\X.env.frame=some X.env.locals)
 exf:∀ b∈X.ex,b≠X.env.locals/\∀ x c,X.env.cells.lookup x=some c->c≠b
 bs:∀ b o,X.base.get? b=some o->X.s₀.heap.get? b=some o/\X.H₀ b=none
 bsz:X.base.objs.size<=X.s₀.heap.objs.size
 noex:∀ b o,X.base.get? b=some o->b∉X.ex
 exfs:∀ b∈X.ex,b∉X.fs
 funs:X.s₀.heap.FunFrames X.base X.outer
 frf:∀ b∈X.fs,X.H₀ b=none

structure Inv (X:Cx)(pins:xPn)(σ:List (Option V))(H:Hp)(s:Shared):Prop where
 ok:X.Ok
 os:s.os=X.s₀.os
 bare:AllBare s.gens
 base:Un X.fs X.ex X.H₀ H X.s₀.heap s.heap
 loc:∃ m,s.heap.Ns X.env.locals m/\∀ (i:Nat) (x:Str) (v:V),X.N[i]?=some x->σ[i]?=some (some v)->Vis X.env.scope x->∃ u,cO v u/\aYc X.env s.heap m x u
 cell:∀ x c,X.env.cells.lookup x=some c->∃ v,s.heap.IsCell c v
 free:H X.env.locals=none
 freeC:∀ x c,X.env.cells.lookup x=some c->H c=none
 pin:∀ p∈X.pn++pins,s.heap.get? p.1=some p.2/\H p.1=none/\p.1≠X.env.locals/\p.1∉X.fs/\∀ v,p.2.data≠.cell v
 hok:HOk X.prog X.w H s.heap
 len:σ.length=X.N.length

section
variable {X:Cx}{pins:xPn}{σ:List (Option V)}{H H':Hp}{s:Shared}{h':Heap}

theorem Cx.Ok.nofr (ok:X.Ok){b:Addr}{o:Obj}(e:X.base.get? b=some o):b∉X.fs:=λhb=>by
 have:=(ok.funs.mem hb).1
 rw[e] at this; cases this
theorem Inv.bs (I:Inv X pins σ H s):∀ b o,X.base.get? b=some o->s.heap.get? b=some o/\H b=none:=λb o e=>
 ⟨I.base.keep b o (I.ok.bs b o e).1 (I.ok.bs b o e).2 (I.ok.nofr e) (I.ok.noex b o e),I.base.free b o (I.ok.bs b o e).1 (I.ok.bs b o e).2 (I.ok.noex b o e)⟩
theorem Inv.bk (I:Inv X pins σ H s):∀ b o,X.base.get? b=some o->s.heap.get? b=some o:=λb o e=>(I.bs b o e).1
theorem Inv.mod (I:Inv X pins σ H s):Mod X.K X.mg X.base:=I.ok.mod
theorem Inv.kIn (I:Inv X pins σ H s):X.K.In s.heap:=I.ok.mod.kin.keeps I.bk
theorem Inv.lt (I:Inv X pins σ H s):X.env.locals<s.heap.objs.size:=let ⟨_,hn,_⟩:=I.loc; hn.lt
theorem Inv.sz (I:Inv X pins σ H s):X.s₀.heap.objs.size<=s.heap.objs.size:=xAn I.ok.above (xEu I.lt)
theorem Inv.nofs (I:Inv X pins σ H s){a:Addr}(h:s.heap.objs.size<=a):a∉X.fs:=λhb=>by
 obtain⟨_,o,ho,_⟩:=I.ok.funs.mem hb;exact xAz (xBc (xAs ho) (xAn I.sz h)) (xDq _)
theorem Inv.cne (I:Inv X pins σ H s):∀ x c,X.env.cells.lookup x=some c->c≠X.env.locals:=λx c e z=>by
 obtain⟨v,o,ho,hd⟩:=I.cell x c e;obtain⟨m,⟨o',es,ep,ho',hd',_⟩,_⟩:=I.loc;rw[z,ho'] at ho; cases ho; rw[hd'] at hd; cases hd
theorem Inv.funs (I:Inv X pins σ H s):s.heap.FunFrames X.base X.outer:=by
 have all:∀ (l:List Env),(∀ b∈frs l,b∈X.fs)->X.s₀.heap.FunFrames X.base l->s.heap.FunFrames X.base l:=by
  intro l
  induction l with
  | nil=>intro _ _; trivial
  | cons env r ih=>
   intro hs hl;obtain⟨hk,⟨L,o,hf,hn,ho,hd⟩,hr⟩:=hl;have hL:L∈X.fs:=hs L (by unfold frs; rw[xEl,hf]; exact xBk);obtain⟨sl,e⟩:=I.base.slot L o ho (I.ok.frf L hL) hL λz=>I.ok.exfs L z hL;exact⟨hk,⟨L,_,hf,hn,e,hd⟩,ih (λb hb=>hs b (by unfold frs; rw[xEl,hf]; exact xBg _ hb)) hr⟩
 exact all X.outer (λ_ hb=>hb) I.ok.funs

theorem Inv.stack (I:Inv X pins σ H s):s.heap.FunFrames X.base X.stack:=by
 rcases I.ok.stk with e | ⟨e,hf⟩
 ·rw[e]; exact I.funs
 ·rw[e];obtain⟨m,hn,_⟩:=I.loc;refine .cons (by rw[I.ok.kind]; decide) hf hn ?_ I.funs;exact Heap.get?_none_of_le (xAn I.ok.bsz I.ok.above)
theorem Inv.stkSub (I:Inv X pins σ H s):∀ b∈frs X.stack,b∈X.env.locals::X.fs:=λb hb=>by
 rcases I.ok.stk with e | ⟨e,hf⟩
 ·rw[e] at hb; exact xBg _ hb
 ·rw[e] at hb;unfold frs at hb;rw[xEl,hf] at hb;exact hb
theorem Inv.stkFree (I:Inv X pins σ H s):∀ b∈frs X.stack,H b=none:=λb hb=>by
 rcases xAo.mp (I.stkSub b hb) with e | hb
 ·rw[e]; exact I.free
 ·obtain⟨_,o,ho,_⟩:=I.ok.funs.mem hb;exact I.base.free b o ho (I.ok.frf b hb) λz=>I.ok.exfs b z hb

theorem Inv.step {g':Array GenState}{t':Nat}{d':Drawn}{ch:List Addr}(I:Inv X pins σ H s)
  (hch:∀ b∈ch,(b∈X.ex\/X.s₀.heap.objs.size<=b)/\b≠X.env.locals/\(∀ x c,X.env.cells.lookup x=some c->c≠b)/\∀ p∈X.pn++pins,p.1≠b)
  (keep:∀ b o,b≠X.env.locals->b∉X.fs->b∉ch->s.heap.get? b=some o->H b=none->h'.get? b=some o)
  (slot:∀ b o,b≠X.env.locals->b∈X.fs->b∉ch->s.heap.get? b=some o->H b=none->∃ sl,h'.get? b=some { o with slots:=sl })(free:∀ b o,b∉ch->s.heap.get? b=some o->H b=none->H' b=none)
  (there:∀ b o,b∉ch->s.heap.get? b=some o->∃ o',h'.get? b=some o')
  (tups:∀ b xs,H b=some (.tup xs)->H' b=some (.tup xs))(frzs:∀ b o u,H b=some (.frz o u)->H' b=some (.frz o u))(tbls:∀ b ps,H b=some (.tbl ps)->∃ more,H' b=some (.tbl (ps++more)))
  (ns:∀ m,s.heap.Ns X.env.locals m->h'.Ns X.env.locals m)(hok:HOk X.prog X.w H' h')(hg:AllBare g') :
  Inv X pins σ H' { s with heap:=h',gens:=g',drawn:=d',toks:=t' }:=by
 have neL:∀ b o,X.s₀.heap.get? b=some o->b≠X.env.locals:=λb o e=>xBi (xBc (xAs e) I.ok.above)
 have neC:∀ b o,X.s₀.heap.get? b=some o->b∉X.ex->b∉ch:=λb o e hx hb=>by
  rcases (hch b hb).1 with z | z
  ·exact hx z
  ·exact xAz (xBc (xAs e) z) (xDq _)
 have cellK:∀ x c,X.env.cells.lookup x=some c->∀ v,s.heap.IsCell c v->h'.IsCell c v:=λx c e v ⟨o,ho,hd⟩=>by
  have nch:c∉ch:=λz=>(hch c z).2.2.1 x c e rfl
  by_cases hc:c∈X.fs
  ·obtain⟨sl,q⟩:=slot c o (I.cne x c e) hc nch ho (I.freeC x c e);exact⟨_,q,hd⟩
  ·exact⟨o,keep c o (I.cne x c e) hc nch ho (I.freeC x c e),hd⟩
 refine⟨I.ok,I.os,hg,⟨λb o e n hb hx=>?_,λb o e n hb hx=>?_,λb o e n hx=>?_,λb o e hx=>?_,λb xs e=>tups b xs (I.base.tups b xs e),λb o xs e=>frzs b o xs (I.base.frzs b o xs e),λb ps e=>?_⟩,?_,λx c e=>?_,?_,λx c e=>?_,λp hp=>?_,hok,I.len⟩
 ·exact keep b o (neL b o e) hb (neC b o e hx) (I.base.keep b o e n hb hx) (I.base.free b o e n hx)
 ·obtain⟨sl,e1⟩:=I.base.slot b o e n hb hx;obtain⟨sl',e2⟩:=slot b _ (neL b o e) hb (neC b o e hx) e1 (I.base.free b o e n hx);exact⟨sl',e2⟩
 ·obtain⟨o',e1⟩:=I.base.there b o e hx;exact free b o' (neC b o e hx) e1 (I.base.free b o e n hx)
 ·obtain⟨o',e1⟩:=I.base.there b o e hx;exact there b o' (neC b o e hx) e1
 ·obtain⟨m1,e1⟩:=I.base.tbls b ps e;obtain⟨m2,e2⟩:=tbls b _ e1;exact⟨m1++m2,by rw[e2,Array.append_assoc]⟩
 ·obtain⟨m,hn,hl⟩:=I.loc;refine⟨m,ns m hn,λi x v e1 e2 e3=>?_⟩;obtain⟨u,r,l⟩:=hl i x v e1 e2 e3;refine⟨u,r,?_⟩;rcases l with l | ⟨k,c,e,z⟩
  ·exact .inl l
  ·exact .inr ⟨k,c,e,cellK x c e _ z⟩
 ·obtain⟨v,z⟩:=I.cell x c e;exact⟨v,cellK x c e v z⟩
 ·obtain⟨m,⟨o,_,_,ho,_⟩,_⟩:=I.loc;exact free _ o (λz=>(hch _ z).2.1 rfl) ho I.free
 ·obtain⟨v,o,ho,hd⟩:=I.cell x c e;exact free c o (λz=>(hch c z).2.2.1 x c e rfl) ho (I.freeC x c e)
 ·obtain⟨e,n,ne,nf,d⟩:=I.pin p hp;have nch:p.1∉ch:=λz=>(hch p.1 z).2.2.2 p hp rfl;exact⟨keep p.1 p.2 ne nf nch e n,free p.1 p.2 nch e n,ne,nf,d⟩
theorem Inv.un {t':Nat}(I:Inv X pins σ H s)(u:Un X.fs [] H H' s.heap h')(hok:HOk X.prog X.w H' h'):Inv X pins σ H' { s with heap:=h',toks:=t' }:=by
 obtain⟨m,⟨o,es,ep,ho,r⟩,_⟩:=id I.loc;obtain⟨sl,hL⟩:=u.any ho I.free (by simp)
 exact I.step (g':=s.gens) (d':=s.drawn) (ch:=[]) (λ_ z=>nomatch z) (λb o _ hb _ e n=>u.keep b o e n hb (by simp)) (λb o _ hb _ e n=>u.slot b o e n hb (by simp)) (λb o _ e n=>u.free b o e n (by simp)) (λb o _ e=>u.there b o e (by simp)) u.tups u.frzs u.tbls (λm' hm=>by
  obtain⟨o',es',ep',ho',r'⟩:=hm;rw[ho] at ho'; cases ho';exact⟨_,es',ep',hL,r'⟩) hok I.bare
theorem Inv.call {g':Array GenState}{t':Nat}{d':Drawn}{ch:List Addr}(I:Inv X pins σ H s)(u:Un (frs X.stack) ch H H' s.heap h')(hok:HOk X.prog X.w H' h')(hg:AllBare g')
  (hch:∀ b∈ch,(b∈X.ex\/X.s₀.heap.objs.size<=b)/\b≠X.env.locals/\(∀ x c,X.env.cells.lookup x=some c->c≠b)/\∀ p∈X.pn++pins,p.1≠b) :
  Inv X pins σ H' { s with heap:=h',gens:=g',drawn:=d',toks:=t' }:=by
 obtain⟨m,⟨o,es,ep,ho,r⟩,_⟩:=id I.loc;obtain⟨sl,hL⟩:=u.any ho I.free λz=>(hch _ z).2.1 rfl
 exact I.step (ch:=ch) hch (λb o hL hb hc e n=>u.keep b o e n (λz=>(xAo.mp (I.stkSub b z)).elim hL hb) hc) (λb o _ _ hc e n=>u.any e n hc) (λb o hc e n=>u.free b o e n hc) (λb o hc e=>u.there b o e hc) u.tups u.frzs u.tbls (λm' hm=>by
  obtain⟨o',es',ep',ho',r'⟩:=hm;rw[ho] at ho'; cases ho';exact⟨_,es',ep',hL,r'⟩) hok hg
theorem Inv.turned {t':Nat}{it:Addr}(I:Inv X pins σ H s)(k:∀ b o,b≠it->s.heap.get? b=some o->h'.get? b=some o)(hn:H it=none)(hL:it≠X.env.locals)
  (h1:it∈X.ex\/X.s₀.heap.objs.size<=it)(h2:∀ x c,X.env.cells.lookup x=some c->c≠it)(h3:∀ p∈X.pn++pins,p.1≠it):Inv X pins σ H { s with heap:=h',toks:=t' }:=by
 have nit:∀ b u,H b=some u->b≠it:=λb u e z=>by rw[z,hn] at e; cases e
 refine I.step (g':=s.gens) (d':=s.drawn) (ch:=[it]) (λb hb=>?_) (λb o _ _ hc e _=>k b o (λz=>hc (by simp[z])) e) (λb o _ _ hc e _=>⟨o.slots,k b o (λz=>hc (by simp[z])) e⟩) (λ_ _ _ _ n=>n)
  (λb o hc e=>⟨o,k b o (λz=>hc (by simp[z])) e⟩) (λ_ _ e=>e) (λ_ _ _ e=>e) (λb ps e=>⟨#[],by rw[e]; simp⟩) (λm hm=>?_) (λb u e=>?_) I.bare
 ·have e:b=it:=by simpa using hb
  subst e;exact⟨h1,hL,h2,h3⟩
 ·obtain⟨o,es,ep,ho,r⟩:=hm;exact⟨o,es,ep,k _ o (Ne.symm hL) ho,r⟩
 ·refine (I.hok b u e).stay (λc v hc q=>k c v ?_ q) (λ_ q=>q) λ_ _ q=>q;rcases hc with z | z
  ·rw[z]; exact nit b u e
  ·exact nit c _ z
theorem Inv.tok (I:Inv X pins σ H s)(t:Nat):Inv X pins σ H { s with toks:=t }:=I.un (h':=s.heap) (t':=t) Un.refl I.hok
theorem Inv.kept {t':Nat}(I:Inv X pins σ H s)(k:∀ b u,s.heap.get? b=some u->h'.get? b=some u):Inv X pins σ H { s with heap:=h',toks:=t' }:=I.un (Un.kept k) (I.hok.kept k)
theorem Inv.laid {a:Addr}{o:HO}{t':Nat}(I:Inv X pins σ H s)(k:∀ b u,s.heap.get? b=some u->h'.get? b=some u)(hp:s.heap.objs.size<=a)(new:dP X.prog X.w (upd H a o) h' a o) :
  Inv X pins σ (upd H a o) { s with heap:=h',toks:=t' }:=I.un (Un.laid k hp (I.hok.fresh hp)) (I.hok.laid k hp new)
theorem Inv.write {x e:Addr}{o:HO}{t':Nat}(I:Inv X pins σ H s)(mu:Mut (H x))(he:e=x\/H e=some (.own x))(k:∀ b u,b≠e->s.heap.get? b=some u->h'.get? b=some u)(heo:∃ u,h'.get? e=some u)
  (new:dP X.prog X.w (upd H x o) h' x o):Inv X pins σ (upd H x o) { s with heap:=h',toks:=t' }:=I.un (Un.write mu he k heo) (I.hok.write mu he k heo new)
theorem Inv.pins_of {pins':xPn}(I:Inv X pins σ H s)(h:∀ p∈pins',s.heap.get? p.1=some p.2/\H p.1=none/\p.1≠X.env.locals/\p.1∉X.fs/\∀ v,p.2.data≠.cell v):Inv X pins' σ H s:=
 ⟨I.ok,I.os,I.bare,I.base,I.loc,I.cell,I.free,I.freeC,λp hp=>(xBy.mp hp).elim (λz=>I.pin p (xDj _ z)) (h p),I.hok,I.len⟩

theorem zS {N:List Str}(hN:N.Nodup){i j:Nat}{x:Str}(a:N[i]?=some x)(b:N[j]?=some x):i=j:=by
 obtain⟨h1,e1⟩:=xAd.mp a;obtain⟨h2,e2⟩:=xAd.mp b;exact (List.getElem_inj hN).mp (e1.trans e2.symm)

theorem vK {M:Model}{A:Around}{E:xVP}{i:Nat}{x:Str}{v:V}{u:Value}{Q:Unit->Shared->Prop}(I:Inv X pins σ H s)(hN:X.N.Nodup)(hi:X.N[i]?=some x)(hx:Loc X.env.scope x)(r:cO v u)
  (h:∀ s',Inv X pins (σ.set i (some v)) H s'->(∃ a,Heap.SameBut a s.heap s'.heap/\(a=X.env.locals\/X.env.cells.lookup x=some a))->Q () s')(hf:X.fn x=true\/X.env.scope.names.lookup x=some .local:=by first | exact .inl rfl | exact .inr rfl | assumption):wpAny M A (storeName X.env x u) Q E s:=by
 obtain⟨m,hn,hl⟩:=id I.loc;have hcls:(X.env.scope.kind==.class||(X.env.scope.kind==.module&&X.env.locals != X.env.globals))=false:=by rw[I.ok.kind]; rfl
 have hiσ:i<σ.length:=by rw[I.len]; exact (xAd.mp hi).1
 have cne:=I.cne
 have tracked:∀ {a:Addr}{h':Heap},(∃ o,s.heap.get? a=some o/\H a=none)->Heap.SameBut a s.heap h'->HOk X.prog X.w H h':=λ{a h'} ha hs b ob e=>by
  obtain⟨_,_,hfree⟩:=ha;refine (I.hok b ob e).stay (λc w' hc q=>(hs.2 c ?_).trans q) (λ_ q=>q) λ_ _ q=>q;rintro rfl;rcases hc with rfl | hc
  ·rw[hfree] at e; cases e
  ·rw[hfree] at hc; cases hc
 rcases hx with hk | hk
 ·refine wpAny_storeName_local hk hn (λh' hn' hs=>?_) hcls;obtain⟨oL,_,_,hoL,_⟩:=id hn;refine h _ ⟨I.ok,I.os,I.bare,⟨λb o e n hb hx=>?_,λb o e n hb hx=>?_,I.base.free,λb o e hx=>?_,I.base.tups,I.base.frzs,I.base.tbls⟩,⟨_,hn',λj y v' e1 e2 e3=>?_⟩,λy c e=>?_,I.free,I.freeC,λp hp=>?_,tracked ⟨oL,hoL,I.free⟩ hs,by simpa using I.len⟩ ⟨_,hs,.inl rfl⟩
  ·exact (hs.2 b (xBi (xBc (xAs e) I.ok.above))).trans (I.base.keep b o e n hb hx)
  ·obtain⟨sl,e1⟩:=I.base.slot b o e n hb hx;exact⟨sl,(hs.2 b (xBi (xBc (xAs e) I.ok.above))).trans e1⟩
  ·obtain⟨o',e1⟩:=I.base.there b o e hx;exact⟨o',(hs.2 b (xBi (xBc (xAs e) I.ok.above))).trans e1⟩
  ·by_cases hj:j=i
   ·subst hj;rw[hi] at e1; cases e1;rw[xIu hiσ] at e2;cases e2;exact⟨u,r,.inl ⟨hk,by simp⟩⟩
   ·rw[List.getElem?_set_ne (Ne.symm hj)] at e2;obtain⟨u',r',q⟩:=hl j y v' e1 e2 e3;refine⟨u',r',?_⟩;rcases q with⟨k,e⟩ | ⟨k,c,e,z⟩
    ·refine .inl ⟨k,?_⟩
     have:y≠x:=λe=>hj (zS hN e1 (e▸hi))
     simp[this,e]
    ·exact .inr ⟨k,c,e,z.sameBut hs (cne y c e)⟩
  ·obtain⟨w',z⟩:=I.cell y c e;exact⟨w',z.sameBut hs (cne y c e)⟩
  ·obtain⟨e,n,ne,nf,d⟩:=I.pin p hp;exact⟨(hs.2 p.1 ne).trans e,n,ne,nf,d⟩
 ·have hfn:X.fn x=true:=by
   rcases hf with z | z
   ·exact z
   ·rw[z] at hk; cases hk
  obtain⟨c,hc⟩:=I.ok.has x (.inl hk);obtain⟨w',z⟩:=I.cell x c hc;refine wpAny_storeName_cell I.ok.kind hk hc z (λh' hc' hs=>?_);obtain⟨oc,hoc,hocd⟩:=id z;refine h { s with heap:=h' } ⟨I.ok,I.os,I.bare,⟨λb o e n hb hx=>?_,λb o e n hb hx=>?_,I.base.free,λb o e hx=>?_,I.base.tups,I.base.frzs,I.base.tbls⟩,⟨m,hn.sameBut hs (Ne.symm (cne x c hc)),λj y v' e1 e2 e3=>?_⟩,λy c' e=>?_,I.free,I.freeC,λp hp=>?_,tracked ⟨oc,hoc,I.freeC x c hc⟩ hs,by simpa using I.len⟩ ⟨c,hs,.inr hc⟩
  ·exact (hs.2 b (xBi (xBc (xAs e) (I.ok.cab x c hfn hc)))).trans (I.base.keep b o e n hb hx)
  ·obtain⟨sl,e1⟩:=I.base.slot b o e n hb hx;exact⟨sl,(hs.2 b (xBi (xBc (xAs e) (I.ok.cab x c hfn hc)))).trans e1⟩
  ·obtain⟨o',e1⟩:=I.base.there b o e hx;exact⟨o',(hs.2 b (xBi (xBc (xAs e) (I.ok.cab x c hfn hc)))).trans e1⟩
  ·by_cases hj:j=i
   ·subst hj;rw[hi] at e1; cases e1;rw[xIu hiσ] at e2;cases e2;exact⟨u,r,.inr ⟨.inl hk,c,hc,hc'⟩⟩
   ·rw[List.getElem?_set_ne (Ne.symm hj)] at e2;obtain⟨u',r',q⟩:=hl j y v' e1 e2 e3;refine⟨u',r',?_⟩;rcases q with q | ⟨k,c',e,z'⟩
    ·exact .inl q
    ·refine .inr ⟨k,c',e,z'.sameBut hs ?_⟩;rintro rfl;exact hj (zS hN e1 (I.ok.inj _ _ _ e hc▸hi))
  ·by_cases hcc:c'=c
   ·subst hcc; exact⟨_,hc'⟩
   ·obtain⟨w2,z2⟩:=I.cell y c' e;exact⟨w2,z2.sameBut hs hcc⟩
  ·obtain⟨e,n,ne,nf,d⟩:=I.pin p hp;refine⟨(hs.2 p.1 ?_).trans e,n,ne,nf,d⟩;intro q;rw[q,hoc] at e;have q':oc=p.2:=xBt e;exact d w' (by rw[<- q']; exact hocd)
theorem oT {M:Model}{A:Around}{E:xVP}{i:Nat}{x:Str}{v:V}{u:Value}{Q:Unit->Shared->Prop}(I:Inv X pins σ H s)(hN:X.N.Nodup)(hi:X.N[i]?=some x)(hx:Loc X.env.scope x)(r:cO v u)
  (h:∀ s',Inv X pins (σ.set i (some v)) H s'->Q () s')(hf:X.fn x=true\/X.env.scope.names.lookup x=some .local:=by first | exact .inl rfl | exact .inr rfl | assumption):wpAny M A (storeName X.env x u) Q E s:=
 vK I hN hi hx r (λs' I' _=>h s' I') hf
theorem Inv.call' {s':Shared}{ch:List Addr}(I:Inv X pins σ H s)(ho:s'.os=s.os)(u:Un (frs X.stack) ch H H' s.heap s'.heap)(hok:HOk X.prog X.w H' s'.heap)(hg:AllBare s'.gens)
  (hch:∀ b∈ch,(b∈X.ex\/X.s₀.heap.objs.size<=b)/\b≠X.env.locals/\(∀ x c,X.env.cells.lookup x=some c->c≠b)/\∀ p∈X.pn++pins,p.1≠b):Inv X pins σ H' s':=by
 obtain⟨h',g',d',t',o'⟩:=s';have e:o'=s.os:=ho;subst e;exact I.call (g':=g') (t':=t') (d':=d') u hok hg hch
end

abbrev XK:=Value->Option Addr->Hp->Prop
abbrev St:=List (Option V)
abbrev VK:=V->Hp->Prop
abbrev TE:=St->Hp->VK->Prop
abbrev TT:=St->Hp->(Bool->Hp->Prop)->Prop
abbrev TA:=St->Hp->(List V->Hp->Prop)->Prop
structure uW where
 nx:St->Hp->Prop
 rt:VK
 bk:St->Hp->Prop:=λ_ _=>False
 ct:St->Hp->Prop:=λ_ _=>False
abbrev TS:=uW->St->Hp->Prop

inductive EP (X:Cx)(pins:xPn)(σ:St)(Q:VK)(u:Value)(s':Shared):Prop
 | mk (v:_)(H':_)(h0_:Inv X pins σ H' s')(h1_:cO v u)(h2_:Q v H')
inductive TP (X:Cx)(pins:xPn)(σ:St)(Q:Bool->Hp->Prop)(b:Bool)(s':Shared):Prop
 | mk (H':_)(h0_:Inv X pins σ H' s')(h1_:Q b H')
inductive AP (X:Cx)(pins:xPn)(σ:St)(Q:List V->Hp->Prop)(us:List Value)(s':Shared):Prop
 | mk (vs:_)(H':_)(h0_:Inv X pins σ H' s')(h1_:cH vs us)(h2_:Q vs H')
def SP (X:Cx)(pins:xPn)(D:uW)(f:Flow)(s':Shared):Prop:=
 match f with
 | .next=>∃ σ' H',Inv X pins σ' H' s'/\D.nx σ' H'
 | .brk=>∃ σ' H',Inv X pins σ' H' s'/\D.bk σ' H'
 | .cont=>∃ σ' H',Inv X pins σ' H' s'/\D.ct σ' H'
 | .ret u=>∃ v σ' H',Inv X pins σ' H' s'/\cO v u/\D.rt v H'

def PE (X:Cx)(e:Expr)(t:TE):Prop:=
 ∀ (pins:xPn) (s:Shared) (σ:St) (H:Hp) (Q:VK),Inv X pins σ H s->t σ H Q->wpAny (model X.prog X.w) X.A (eval e X.env) (EP X pins σ Q) X.xe s
def PT (X:Cx)(e:Expr)(t:TT):Prop:=
 ∀ (pins:xPn) (s:Shared) (σ:St) (H:Hp) (Q:Bool->Hp->Prop),Inv X pins σ H s->t σ H Q->wpAny (model X.prog X.w) X.A (isTrue e X.env (eval e X.env)) (TP X pins σ Q) X.xe s
def PW (X:Cx)(e:Expr)(t:TT):Prop:=
 ∀ (whole:Sem Value) (pins:xPn) (s:Shared) (σ:St) (H:Hp) (Q:Bool->Hp->Prop),Inv X pins σ H s->t σ H Q->wpAny (model X.prog X.w) X.A (isTrue e X.env whole) (TP X pins σ Q) X.xe s
theorem PW.pt {X:Cx}{e:Expr}{t:TT}(h:PW X e t):PT X e t:=h _
def PA (X:Cx)(es:List Expr)(t:TA):Prop:=
 ∀ (pos:Pos) (pins:xPn) (s:Shared) (σ:St) (H:Hp) (Q:List V->Hp->Prop),Inv X pins σ H s->t σ H Q->wpAny (model X.prog X.w) X.A (spliced (backTo pos (starEach es X.env))) (AP X pins σ Q) X.xe s
def PS (X:Cx)(st:Stmt)(t:TS):Prop:=
 ∀ (pins:xPn) (s:Shared) (σ:St) (H:Hp) (D:uW),Inv X pins σ H s->t D σ H->wpAny (model X.prog X.w) X.A (exec st X.env) (SP X pins D) X.xe s
def PSs (X:Cx)(st:List Stmt)(t:TS):Prop:=
 ∀ (pins:xPn) (s:Shared) (σ:St) (H:Hp) (D:uW),Inv X pins σ H s->t D σ H->wpAny (model X.prog X.w) X.A (execs st X.env) (SP X pins D) X.xe s
theorem thn {α:Type}{t:Sem α}{Q Q':α->Shared->Prop}{M:Model}{A:Around}{E:xVP}{s:Shared}(h:wpAny M A t Q E s)(hQ:∀ a s,Q a s->Q' a s):wpAny M A t Q' E s:=xCr h hQ λ_ _ x=>x
section
variable {X:Cx}


inductive aFi (i:Nat)(σ:St)(H:Hp)(Q:VK):Prop
 | mk (v:_)(h0_:σ[i]?=some (some v))(h1_:Q v H)
def tC (v:V):TE:=λ_ H Q=>Q v H
theorem aJi {i:Nat}{x:Str}{pos:Pos}(hN:X.N[i]?=some x)(hv:Vis X.env.scope x)(hd:(x==("__debug__" : Str))=false:=by decide)(hcd:(x==("__classdict__" : Str))=false:=by decide):PE X (.Name x pos) (aFi i):=by
 intro pins s σ H Q I h;obtain⟨v,e,h⟩:=h;obtain⟨m,hn,hl⟩:=I.loc;obtain⟨u,r,l⟩:=hl i x v hN e hv;have fin:EP X pins σ Q u s:=⟨v,H,I,r,h⟩;rcases l with⟨hk,hm⟩ | ⟨hk,c,hc,hcell⟩
 ·exact wpAny_Name (wpAny_loadName_local I.ok.kind hk hn hm fin) hd
 ·rcases hk with hk | hk
  ·exact wpAny_Name (wpAny_loadName_cell I.ok.kind hk hc hcell fin) hd
  ·exact wpAny_Name (wpAny_loadName_free I.ok.kind hk hc hcell fin hcd) hd
theorem aN {i j pos}:PE X (.Constant (.int i) j pos) (tC (.int i)):=λ_ _ _ H _ I h=>wpAny_Constant_int ⟨.int i,H,I.tok _,⟨_,rfl⟩,h⟩
theorem lX {b j pos}:PE X (.Constant (.bool b) j pos) (tC (.bl b)):=λ_ _ _ H _ I h=>Constant_bool ⟨.bl b,H,I,rfl,h⟩
theorem eJ {j pos}:PE X (.Constant .none j pos) (tC .non):=λ_ _ _ H _ I h=>Constant_none ⟨.non,H,I,rfl,h⟩
theorem aO {x j pos}:PE X (.Constant (.str x) j pos) (tC (.str x)):=λ_ _ _ H _ I h=>Calls.Constant_str ⟨.str x,H,I.tok _,⟨_,rfl⟩,h⟩

def Gl (X:Cx)(x:Str):Prop:=X.env.kindOf x=some .globalImplicit
theorem jU {E:xVP}{pins:xPn}{s:Shared}{σ:St}{H:Hp}{x:Str}{u:Value}{pos:Pos}{Q:xVP}(I:Inv X pins σ H s)(hg:Gl X x)(hm:X.mg x=some u)(h:Q u s)
  (hd:(x==("__debug__" : Str))=false:=by decide):wpAny (model X.prog X.w) X.A (eval (.Name x pos) X.env) Q E s:=
 Calls.Name_function_global I.ok.kind hg (Calls.loadGlobal_global (by rw[I.ok.glob]; exact I.mod.glob.keeps I.bk) hm h) hd
theorem oN {E:xVP}{pins:xPn}{s:Shared}{σ:St}{H:Hp}{x:Str}{u:Value}{pos:Pos}{Q:xVP}(I:Inv X pins σ H s)(hg:Gl X x)(hm:X.mg x=none)(hv:bootBuiltins x=some u)(h:Q u s)
  (hn:x≠"__name__" := by decide)(hd:(x==("__debug__" : Str))=false:=by decide):wpAny (model X.prog X.w) X.A (eval (.Name x pos) X.env) Q E s:=by
 obtain⟨mb,h1,h2⟩:=I.mod.blt;exact Calls.Name_function_global I.ok.kind hg (Calls.loadGlobal_builtin (by rw[I.ok.glob]; exact I.mod.glob.keeps I.bk) hm (by rw[I.ok.blt]; exact h1.keeps I.bk) ((h2 x hn).trans hv) h) hd
theorem hG {x:Str}{v:V}{u:Value}{pos:Pos}(hg:Gl X x)(hm:X.mg x=some u)(r:cO v u)(hd:(x==("__debug__" : Str))=false:=by decide):PE X (.Name x pos) (tC v):=
 λ_ _ _ H _ I h=>jU I hg hm ⟨v,H,I,r,h⟩ hd
theorem xG {x:Str}{v:V}{u:Value}{pos:Pos}(hg:Gl X x)(hm:X.mg x=none)(hv:bootBuiltins x=some u)(r:cO v u)(hn:x≠"__name__" := by decide)(hd:(x==("__debug__" : Str))=false:=by decide):PE X (.Name x pos) (tC v):=
 λ_ _ _ H _ I h=>oN I hg hm hv ⟨v,H,I,r,h⟩ hn hd

variable {a b:Expr}{ta tb:TE}{pos:Pos}

def PC (X:Cx)(op:CmpOp)(a b:Expr)(t:TE):Prop:=
 ∀ (pins:xPn) (s:Shared) (σ:St) (H:Hp) (Q:VK),Inv X pins σ H s->t σ H Q ->
  wpAny (model X.prog X.w) X.A (eval a X.env) (λv s₁=>wpAny (model X.prog X.w) X.A (eval b X.env) (λu s₂=>wpAny (model X.prog X.w) X.A (compareOp op v u) (EP X pins σ Q) X.xe s₂) X.xe s₁) X.xe s
def tB (t:TE):TT:=λσ H Q=>t σ H λx H1=>∃ c,x=.bl c/\Q c H1
theorem aJk {op:CmpOp}{t:TE}(h:PC X op a b t)(h1:behindInMarks op b=false:=by first | exact nobehind _ (by decide) (by decide) | rfl):PE X (.Compare a [op] [b] pos) t:=λpins s σ H Q I hw=>wpAny_Compare1 (h pins s σ H Q I hw) h1
theorem qN {op:CmpOp}{t:TE}(h:PC X op a b t)(h1:behindInMarks op b=false:=by first | exact nobehind _ (by decide) (by decide) | rfl):PT X (.Compare a [op] [b] pos) (tB t):=by
 intro pins s σ H Q I hw;refine xIx (thn (h pins s σ H _ I hw) λv s1 h1=>thn h1 λu s2 h2=>thn h2 λc s3 ⟨x,H1,I1,r1,q1⟩=>?_) h1;obtain⟨d,rfl,q⟩:=q1;cases r1;exact xCj ⟨H1,I1,q⟩
theorem jW {e:Expr}{t:TE}(h:PE X e t)(he:∀ whole,isTrue e X.env whole=(do let v <- whole; standAt e.pos; holding [v] (truthy v)):=by intro _; rfl):PT X e (tB t):=by
 intro pins s σ H Q I hw;refine isTrue_plain (thn (h pins s σ H _ I hw) λv s1 ⟨x,H1,I1,r1,q1⟩=>?_) (he _);obtain⟨d,rfl,q⟩:=q1;cases r1;exact xCj ⟨H1,I1,q⟩

variable {tA tB':TT}{rest:List Expr}
def aVu (t u:TT):TT:=λσ H Q=>t σ H λc H1=>if c=true then u σ H1 Q else Q false H1
def tOr (t u:TT):TT:=λσ H Q=>t σ H λc H1=>if c=true then Q true H1 else u σ H1 Q
def aVo (t:TT):TT:=λσ H Q=>t σ H λc H1=>Q (!c) H1
theorem pH (ha:PT X a tA):PW X (.BoolOp .And [a] pos) tA:=by
 intro wh pins s σ H Q I h;refine isTrue_and (thn (ha pins s σ H Q I h) λc s1 e=>?_);cases c with
 | true=>exact isTrue_and_nil e
 | false=>exact e
theorem lQ (ha:PT X a tA):PW X (.BoolOp .Or [a] pos) tA:=by
 intro wh pins s σ H Q I h;refine isTrue_or (thn (ha pins s σ H Q I h) λc s1 e=>?_);cases c with
 | false=>exact isTrue_or_nil e
 | true=>exact e
theorem qM (ha:PT X a tA)(hb:PW X (.BoolOp .And (b::rest) pos) tB'):PW X (.BoolOp .And (a::b::rest) pos) (aVu tA tB'):=by
 intro wh pins s σ H Q I h;refine isTrue_and (thn (ha pins s σ H _ I h) λc s1 ⟨H1,I1,q1⟩=>?_);cases c with
 | true=>exact hb wh pins s1 σ H1 Q I1 q1
 | false=>exact⟨H1,I1,q1⟩
theorem nZ (ha:PT X a tA)(hb:PW X (.BoolOp .Or (b::rest) pos) tB'):PW X (.BoolOp .Or (a::b::rest) pos) (tOr tA tB'):=by
 intro wh pins s σ H Q I h;refine isTrue_or (thn (ha pins s σ H _ I h) λc s1 ⟨H1,I1,q1⟩=>?_);cases c with
 | true=>exact⟨H1,I1,q1⟩
 | false=>exact hb wh pins s1 σ H1 Q I1 q1
theorem jC (ha:PT X a tA):PT X (.UnaryOp .Not a pos) (aVo tA):=by
 intro pins s σ H Q I h;exact isTrue_not (thn (ha pins s σ H (λc H1=>Q (!c) H1) I h) λc s1 ⟨H',I',q⟩=>⟨H',I',q⟩)
inductive aVi (x:V)(H:Hp)(Q:Bool->Hp->Prop):Prop
 | mk (k:Bool)(h:x=.bl k)(q:Q k H)
def aSz (ta tb:TE):TE:=λσ H Q=>ta σ H λx H1=>aVi x H1 λc H1=>if c=true then tb σ H1 Q else Q (.bl false) H1
def aVn (ta tb:TE):TE:=λσ H Q=>ta σ H λx H1=>∃ c,x=.bl c/\if c=true then Q (.bl true) H1 else tb σ H1 Q
def aSr (ta:TE):TE:=λσ H Q=>ta σ H λx H1=>∃ c,x=.bl c/\Q (.bl (!c)) H1
theorem qO {op}{t:TE}(h:PE X a t):PE X (.BoolOp op [a] pos) t:=λpins s σ H Q I hw=>BoolOp_one (h pins s σ H Q I hw)
theorem qP (ha:PE X a ta)(hb:PE X (.BoolOp .And (b::rest) pos) tb):PE X (.BoolOp .And (a::b::rest) pos) (aSz ta tb):=by
 intro pins s σ H Q I h;refine BoolOp_and (thn (ha pins s σ H _ I h) λv s1 ⟨x,H1,I1,r1,q1⟩=>?_);obtain⟨c,rfl,q1⟩:=q1;cases r1;refine xCj ?_;cases c with
 | true=>exact hb pins s1 σ H1 Q I1 q1
 | false=>exact⟨.bl false,H1,I1,rfl,q1⟩
theorem aTt (ha:PE X a ta)(hb:PE X (.BoolOp .Or (b::rest) pos) tb):PE X (.BoolOp .Or (a::b::rest) pos) (aVn ta tb):=by
 intro pins s σ H Q I h;refine BoolOp_or (thn (ha pins s σ H _ I h) λv s1 ⟨x,H1,I1,r1,q1⟩=>?_);obtain⟨c,rfl,q1⟩:=q1;cases r1;refine xCj ?_;cases c with
 | false=>exact hb pins s1 σ H1 Q I1 q1
 | true=>exact⟨.bl true,H1,I1,rfl,q1⟩
theorem aRf (ha:PE X a ta):PE X (.UnaryOp .Not a pos) (aSr ta):=by
 intro pins s σ H Q I h;refine UnaryOp_ (thn (ha pins s σ H _ I h) λv s1 ⟨x,H1,I1,r1,q1⟩=>?_);obtain⟨c,rfl,q1⟩:=q1;cases r1;exact not_of (xCj ⟨.bl (!c),H1,I1,rfl,q1⟩)
def tIf (t:TT)(ta tb:TE):TE:=λσ H Q=>t σ H λc H1=>if c=true then ta σ H1 Q else tb σ H1 Q
theorem kC {c:Expr}(hc:PT X c tA)(ha:PE X a ta)(hb:PE X b tb):PE X (.IfExp c a b pos) (tIf tA ta tb):=by
 intro pins s σ H Q I h;refine wpAny_IfExp (thn (hc pins s σ H _ I h) λd s1 ⟨H1,I1,q1⟩=>?_);cases d with
 | true=>exact ha pins s1 σ H1 Q I1 q1
 | false=>exact hb pins s1 σ H1 Q I1 q1
end

def SqL (K:xAb)(H:Hp)(a:Addr)(xs:List V):Prop:=
 Rd H a (.lst xs) \/
  ∃ (o:Obj) (its:Array Value) (n:Nat),K.lookup a=some o/\o.cls=.type "list" /\ o.dict=none/\o.data=.seq its n/\its.size<=sizeLine/\cH xs its.toList
def SqT (K:xAb)(H:Hp)(a:Addr)(xs:List V):Prop:=
 Rd H a (.tup xs) \/
  ∃ (o:Obj) (its:Array Value) (n:Nat),K.lookup a=some o/\o.cls=.type "tuple" /\ o.data=.seq its n/\its.size<=sizeLine/\cH xs its.toList
def aXz:Value->Option V
 | .none=>some .non
 | .bool b=>some (.bl b)
 | .int i _=>some (.int i)
 | .str x _=>some (.str x)
 | .bytes b _=>some (.byt b)
 | .float b _=>some (.flt b)
 | .ref a=>some (.ref a)
 | .type n=>some (.ty n)
 | _=>none
theorem cO.abs {x:V}{u:Value}(r:cO x u):aXz u=some x:=by
 cases x with
 | non=>cases r; rfl
 | bl _=>cases r; rfl
 | int _=>obtain⟨t,rfl⟩:=r; rfl
 | str _=>obtain⟨t,rfl⟩:=r; rfl
 | byt _=>obtain⟨t,rfl⟩:=r; rfl
 | flt _=>obtain⟨t,rfl⟩:=r; rfl
 | ref _=>cases r; rfl
 | ty _=>cases r; rfl
theorem cO.inj {x y:V}{u:Value}(r:cO x u)(q:cO y u):x=y:=xBt (r.abs.symm.trans q.abs)
theorem cH.inj:∀ {xs ys:List V}{us:List Value},cH xs us->cH ys us->xs=ys
 | _,_,_,.nil,.nil=>rfl
 | _,_,_,.cons r t,.cons r' t'=>by rw[r.inj r',cH.inj t t']
section
variable {X:Cx}{pins:xPn}{σ:St}{H:Hp}{s:Shared}{a:Addr}{xs ys:List V}
theorem SqL.of {K:xAb}(h:H a=some (.lst xs)):SqL K H a xs:=.inl (.inl h)
theorem SqT.of {K:xAb}(h:H a=some (.tup xs)):SqT K H a xs:=.inl (.inl h)
theorem Inv.list (I:Inv X pins σ H s)(h:SqL X.K H a xs):∃ its:List Value,cH xs its/\PlainL s.heap a its.toArray/\xs.length<=sizeLine:=by
 rcases h with h | ⟨o,its,n,hk,hc,hd,hs,hz,r⟩
 ·obtain⟨z,its,n,r,e⟩:=h.ok I.hok;exact⟨its,r,⟨_,n,e,rfl,rfl,rfl⟩,z⟩
 ·refine⟨its.toList,r,⟨o,n,I.kIn a o hk,hc,hd,by simpa using hs⟩,?_⟩;have e:=r.length;simp only[Array.length_toList] at e;omega
theorem Inv.tuple (I:Inv X pins σ H s)(h:SqT X.K H a xs):∃ its:List Value,cH xs its/\IsTup s.heap a its.toArray/\xs.length<=sizeLine:=by
 rcases h with h | ⟨o,its,n,hk,hc,hs,hz,r⟩
 ·obtain⟨z,its,r,p⟩:=h.ok I.hok;exact⟨its,r,p,z⟩
 ·refine⟨its.toList,r,⟨o,I.kIn a o hk,hc,n,by simpa using hs⟩,?_⟩;have e:=r.length;simp only[Array.length_toList] at e;omega
theorem Inv.list_inj (I:Inv X pins σ H s)(h:SqL X.K H a xs)(h':SqL X.K H a ys):xs=ys:=by
 obtain⟨its,r,⟨o,n,e,_,_,d⟩,_⟩:=I.list h;obtain⟨its',r',⟨o',n',e',_,_,d'⟩,_⟩:=I.list h';rw[e] at e'; cases e';rw[d] at d';injection d' with d1 _
 have:its=its':=by simpa using congrArg Array.toList d1
 subst this;exact r.inj r'
theorem Inv.tuple_inj (I:Inv X pins σ H s)(h:SqT X.K H a xs)(h':SqT X.K H a ys):xs=ys:=by
 obtain⟨its,r,⟨o,e,_,n,d⟩,_⟩:=I.tuple h;obtain⟨its',r',⟨o',e',_,n',d'⟩,_⟩:=I.tuple h';rw[e] at e'; cases e';rw[d] at d';injection d' with d1 _
 have:its=its':=by simpa using congrArg Array.toList d1
 subst this;exact r.inj r'
end

abbrev Cx.wish (X:Cx)(E:xVP):Cx:={ X with xe:=E }
abbrev Cx.nox (X:Cx):Cx:=X.wish λ_ _=>False
theorem Cx.Ok.wish {X:Cx}(ok:X.Ok)(E:xVP):(X.wish E).Ok:=
 ⟨ok.mod,ok.kind,ok.glob,ok.blt,ok.above,ok.inj,ok.has,ok.cab,ok.hd,ok.frames,ok.stk,ok.exf,ok.bs,ok.bsz,ok.noex,ok.exfs,ok.funs,ok.frf⟩
theorem Cx.Ok.unwish {X:Cx}{E:xVP}(ok:(X.wish E).Ok):X.Ok:=
 ⟨ok.mod,ok.kind,ok.glob,ok.blt,ok.above,ok.inj,ok.has,ok.cab,ok.hd,ok.frames,ok.stk,ok.exf,ok.bs,ok.bsz,ok.noex,ok.exfs,ok.funs,ok.frf⟩
section
variable {X:Cx}{pins:xPn}{σ:St}{H:Hp}{s:Shared}{E:xVP}
theorem Inv.wish (I:Inv X pins σ H s)(E:xVP):Inv (X.wish E) pins σ H s:=⟨I.ok.wish E,I.os,I.bare,I.base,I.loc,I.cell,I.free,I.freeC,I.pin,I.hok,I.len⟩
theorem Inv.unwish (I:Inv (X.wish E) pins σ H s):Inv X pins σ H s:=⟨I.ok.unwish,I.os,I.bare,I.base,I.loc,I.cell,I.free,I.freeC,I.pin,I.hok,I.len⟩
theorem SP.unwish {D:uW}{f:Flow}{s':Shared}(h:SP (X.wish E) pins D f s'):SP X pins D f s':=by
 cases f with
 | next=>obtain⟨σ',H',I,q⟩:=h; exact⟨σ',H',I.unwish,q⟩
 | brk=>obtain⟨σ',H',I,q⟩:=h; exact⟨σ',H',I.unwish,q⟩
 | cont=>obtain⟨σ',H',I,q⟩:=h; exact⟨σ',H',I.unwish,q⟩
 | ret u=>obtain⟨v,σ',H',I,r,q⟩:=h; exact⟨v,σ',H',I.unwish,r,q⟩
theorem PSs.nox {st:List Stmt}{t:TS}(h:PSs X.nox st t):PSs X st t:=λpins s σ H D I hw=>
 xCr (h pins s σ H D (I.wish _) hw) (λ_ _ q=>q.unwish) λ_ _ z=>False.elim z
end

section
variable {X:Cx}{st:Stmt}{rest:List Stmt}{t u:TS}{e:Expr}{te:TE}{pos:Pos}
def aSs:TS:=λD σ H=>D.nx σ H
def aSq (t u:TS):TS:=λD σ H=>t { D with nx:=u D } σ H
theorem bS:PSs X [] aSs:=λ_ _ σ H _ I h=>xFz ⟨σ,H,I,h⟩
theorem aJ (h1:PS X st t)(h2:PSs X rest u):PSs X (st::rest) (aSq t u):=by
 intro pins s σ H D I h;refine xHm (thn (h1 pins s σ H { D with nx:=u D } I h) λf s1 q=>?_);cases f with
 | next=>
  obtain⟨σ',H',I',q⟩:=q;exact h2 pins s1 σ' H' D I' q
 | ret v=>exact q
 | brk=>exact q
 | cont=>exact q
theorem aM (h1:PS X st t):PSs X [st] t:=by
 intro pins s σ H D I h;refine xHm (thn (h1 pins s σ H D I h) λf s1 q=>?_);cases f with
 | next=>exact xFz q
 | ret v=>exact q
 | brk=>exact q
 | cont=>exact q
def aSy:TS:=λD σ H=>D.ct σ H
theorem zB:PS X (.Continue pos) aSy:=λ_ _ σ H _ I h=>wpAny_Continue ⟨σ,H,I,h⟩
theorem Inv.quiet {pins:xPn}{σ:St}{H:Hp}{s:Shared}(I:Inv X pins σ H s):interactive X.env=false:=by simp[interactive,I.ok.kind]
def aSw (te:TE):TS:=λD σ H=>te σ H λ_ H1=>D.nx σ H1
theorem dA (he:PE X e te)(hs:swapsWith e none pos.line X.env=pure false:=by rfl):PS X (.Expr e pos) (aSw te):=by
 intro pins s σ H D I h;exact wpAny_Expr_any (thn (he pins s σ H _ I h) λv s1 ⟨x,H1,I1,r1,q1⟩=>⟨σ,H1,I1,q1⟩) I.quiet hs
def aVl (te:TE):TS:=λD σ H=>te σ H D.rt
theorem aU (he:PE X e te):PS X (.Return (some e) pos) (aVl te):=by
 intro pins s σ H D I h;exact wpAny_Return_some (thn (he pins s σ H _ I h) λv s1 ⟨x,H1,I1,r1,q1⟩=>⟨x,σ,H1,I1,r1,q1⟩)
def aVp (c:TT)(t u:TS):TS:=λD σ H=>c σ H λb H1=>if b=true then t D σ H1 else u D σ H1
theorem cK {c:Expr}{a b:List Stmt}{tc:TT}(hc:PT X c tc)(ha:PSs X a t)(hb:PSs X b u):PS X (.If c a b pos) (aVp tc t u):=by
 intro pins s σ H D I h;refine wpAny_If (thn (hc pins s σ H _ I h) λd s1 ⟨H1,I1,q1⟩=>?_);cases d with
 | true=>exact ha pins s1 σ H1 D I1 q1
 | false=>exact hb pins s1 σ H1 D I1 q1
end

abbrev TG:=V->St->Hp->(St->Hp->Prop)->Prop
abbrev TGs:=List V->St->Hp->(St->Hp->Prop)->Prop
def PG (X:Cx)(target:Expr)(t:TG):Prop:=
 ∀ (pins:xPn) (s:Shared) (σ:St) (H:Hp) (v:V) (u:Value) (Q:St->Hp->Prop),Inv X pins σ H s->cO v u->t v σ H Q ->
  wpAny (model X.prog X.w) X.A (assign target X.env u) (λ_ s'=>∃ σ' H',Inv X pins σ' H' s'/\Q σ' H') X.xe s
def PGs (X:Cx)(ts:List Expr)(t:TGs):Prop:=
 ∀ (pins:xPn) (s:Shared) (σ:St) (H:Hp) (vs:List V) (us:List Value) (Q:St->Hp->Prop),Inv X pins σ H s->cH vs us->t vs σ H Q ->
  wpAny (model X.prog X.w) X.A (assignInOrder ((assignEach ts X.env).map (·.2)) us) (λ_ s'=>∃ σ' H',Inv X pins σ' H' s'/\Q σ' H') X.xe s
section
variable {X:Cx}{pos:Pos}
def hU (i:Nat):TG:=λv σ H Q=>Q (σ.set i (some v)) H
theorem aS {i:Nat}{x:Str}(hN:X.N.Nodup)(hi:X.N[i]?=some x)(hx:Loc X.env.scope x)(hf:X.fn x=true\/X.env.scope.names.lookup x=some .local:=by first | exact .inl rfl | exact .inr rfl | assumption):PG X (.Name x pos) (hU i):=by
 intro pins s σ H v u Q I r h;exact wpAny_assign_Name (oT I hN hi hx r (λs' I'=>⟨_,H,I',h⟩) hf)
def aAh:TGs:=λvs σ H Q=>vs=[]/\Q σ H
inductive iN (t:TG)(u:TGs)(vs:List V)(σ:St)(H:Hp)(Q:St->Hp->Prop):Prop
 | mk (v:V)(r:List V)(h1:vs=v::r)(q:t v σ H λσ' H'=>u r σ' H' Q)

theorem dO:PGs X [] aAh:=by
 intro pins s σ H vs us Q I r h;obtain⟨e,h⟩:=h;subst e;cases r;exact assignInOrder_nil ⟨σ,H,I,h⟩
theorem aY {e:Expr}{es:List Expr}{t:TG}{u:TGs}(h1:PG X e t)(h2:PGs X es u)
  (hs:(assignEach (e::es) X.env).map (·.2)=assign e X.env::(assignEach es X.env).map (·.2):=by rfl):PGs X (e::es) (iN t u):=by
 intro pins s σ H vs us Q I r h;obtain⟨v,vr,e1,h⟩:=h;subst e1;cases r with
 | cons r rr=>
  rw[hs];refine assignInOrder_cons (thn (h1 pins s σ H _ _ _ I r h) λ_ s1 ⟨σ1,H1,I1,q1⟩=>?_);exact h2 pins s1 σ1 H1 _ _ Q I1 rr q1
inductive aAg (K:xAb)(n:Nat)(t:TGs)(v:V)(σ:St)(H:Hp)(Q:St->Hp->Prop):Prop
 | mk (a:Addr)(xs:List V)(h1:v=.ref a)(h2:SqT K H a xs)(h3:xs.length=n)(q:t xs σ H Q)

theorem eO {es:List Expr}{k:Nat}{t:TGs}{n:Nat}(hc:X.calm=true)(h:PGs X es t)
  (hn:(assignEach es X.env).length=n:=by rfl)(hst:(assignEach es X.env).findIdx? (·.1)=none:=by rfl):PG X (.Tuple es k pos) (aAg X.K n t):=by
 intro pins s σ H v u Q I r hw;obtain⟨a,xs,e1,hq,hl,hw⟩:=hw;subst e1;cases r;obtain⟨its,rv,ht,hz⟩:=I.tuple hq;refine assign_Tuple_tuple (I.ok.hd hc) ht (by simp[hn,<- hl,rv.length]) hst λh' hx=>?_;have I1:Inv X pins σ H { s with heap:=h' }:=I.kept (t':=s.toks) λb o e=>hx b o (xBi (xAs e)) e;exact h pins _ σ H xs _ Q I1 (by simpa using rv) hw
def aMw (te:TE)(g:TG):TS:=λD σ H=>te σ H λx H1=>g x σ H1 D.nx
theorem xE {tg e:Expr}{te:TE}{g:TG}(he:PE X e te)(hg:PG X tg g)(hs:swapsWithSole [tg] e pos.line X.env=pure false:=by rfl)(hw:swappedStores [tg] e X.env=pure none:=by rfl)
  (h1:(assignEach [tg] X.env).map (·.2)=[assign tg X.env]:=by rfl):PS X (.Assign [tg] e pos) (aMw te g):=by
 intro pins s σ H D I h;refine wpAny_Assign_stores (thn (he pins s σ H _ I h) λv s1 ⟨x,H1,I1,r1,q1⟩=>?_) hs hw;rw[h1];exact thn (hg pins s1 σ H1 x v _ I1 r1 q1) λ_ s2 q=>q
theorem bJ {i:Nat}{x:Str}{e:Expr}{te:TE}{pos':Pos}(hN:X.N.Nodup)(hi:X.N[i]?=some x)(hx:Loc X.env.scope x)(he:PE X e te)(hs:swapsWith e (some (.Name x pos')) pos.line X.env=pure false:=by rfl)(hf:X.fn x=true\/X.env.scope.names.lookup x=some .local:=by first | exact .inl rfl | exact .inr rfl | assumption) :
  PS X (.Assign [.Name x pos'] e pos) (aMw te (hU i)):=by
 intro pins s σ H D I h;refine wpAny_Assign_Name (thn (he pins s σ H _ I h) λv s1 ⟨y,H1,I1,r1,q1⟩=>?_) hs;exact oT I1 hN hi hx r1 (λs2 I2=>⟨_,H1,I2,q1⟩) hf
def aVm (i j:Nat)(ta:TA):TS:=λD σ H=>ta σ H λvs H1=>∃ v w,vs=[v,w]/\D.nx ((σ.set i (some v)).set j (some w)) H1
theorem aJg {i j:Nat}{x y:Str}{a b:Expr}{ta:TA}{px py pt:Pos}{kt k2 pt2}(hc:X.calm=true)(hN:X.N.Nodup)(hi:X.N[i]?=some x)(hj:X.N[j]?=some y)(hij:i≠j)
  (hx:X.env.scope.names.lookup x=some .local)(hy:X.env.scope.names.lookup y=some .local)(ha:PA X [a,b] ta)
  (hw:swappedStores [.Tuple [.Name x px,.Name y py] kt pt] (.Tuple [a,b] k2 pt2) X.env=pure (some [x,y]))
  (hs:swapsWithSole [.Tuple [.Name x px,.Name y py] kt pt] (.Tuple [a,b] k2 pt2) pos.line X.env=pure false:=by rfl) :
  PS X (.Assign [.Tuple [.Name x px,.Name y py] kt pt] (.Tuple [a,b] k2 pt2) pos) (aVm i j ta):=by
 intro pins s σ H D I h;rw[exec_Assign_arm];refine xAc (xGw ?_);rw[hs];refine xAc (xAq ?_);rw[xAt (by decide)];refine xAc (Tuple_ (thn (ha _ pins s σ H _ I h) λus s1 ⟨vs,H1,I1,r1,q1⟩=>?_));obtain⟨v,w,e1,q1⟩:=q1;subst e1
 obtain⟨u1,u2,rfl,rv,rw'⟩:∃ u1 u2,us=[u1,u2]/\cO v u1/\cO w u2:=by
  cases r1 with
  | cons p q=>
   cases q with
   | cons p' q'=>
    cases q';exact⟨_,_,rfl,p,p'⟩
 refine xCz ?_ (by show 2<=sizeLine; decide);have I2:Inv X pins σ H1 { s1 with heap:=s1.heap.push { cls:=.type "tuple",data:=.seq [u1,u2].toArray } }:=I1.kept (t':=s1.toks) λb o e=>xAj _ e;rw[hw];refine xAc (xAq ?_);show wpAny (model X.prog X.w) X.A (do rule "assign.swapped-stores"; let items <- unpackItems (.ref s1.heap.objs.size) 2 none; assignInOrder [λv=>bindName X.env y v,λv=>bindName X.env x v] items.reverse; pure Flow.next) _ _ _;refine xAc (xHb (xAc (unpackItems_tuple (items:=#[u1,u2]) (I.ok.hd hc) (IsTup.new s1.heap _) λh' hx'=>?_)));have I3:=I2.kept (h':=h') (t':=s1.toks) λb o e=>hx' b o (xBi (xAs e)) e;show wpAny _ _ (assignInOrder [λv=>bindName X.env y v,λv=>bindName X.env x v] [u2,u1]>>=λ_=>pure Flow.next) _ _ _;refine xAc (assignInOrder_cons (wpAny_bindName (oT I3 hN hj (.inl hy) rw' (λs2 I4=>?_) (.inr hy))));refine assignInOrder_cons (wpAny_bindName (oT I4 hN hi (.inl hx) rv (λs3 I5=>assignInOrder_nil (xAq ?_)) (.inr hx)));rw[List.set_comm _ _ (Ne.symm hij)] at I5;exact⟨_,H1,I5,q1⟩
end

section
variable {X:Cx}{pos:Pos}
def aQg (c:TT)(tb:TS):TS:=λD σ H=>∃ W:Nat->St->Hp->Prop,(∃ m,W m σ H)/\∀ m σ H,W m σ H ->
 c σ H λb H1=>if b=true then ∃ N:St->Hp->Prop,(∀ σ' H',N σ' H'->∃ m',m'<m/\W m' σ' H')/\tb { D with nx:=N,ct:=N,bk:=D.nx } σ H1 else D.nx σ H1
theorem zA {c:Expr}{body:List Stmt}{tc:TT}{tb:TS}(hp:PassesOwn (model X.prog X.w) X.A X.env X.xe)(hc:PT X c tc)(hb:PSs X body tb):PS X (.While c body [] pos) (aQg tc tb):=by
 intro pins s σ H D I h;obtain⟨W,⟨m0,w0⟩,turn⟩:=h;refine wpAny_While (codeAny_whileLoop (λn s'=>∃ σ' H',Inv X pins σ' H' s'/\W n σ' H') ?_ m0 ⟨σ,H,I,w0⟩);rintro n s1 ⟨σ1,H1,I1,w1⟩;refine xEb hp (thn (hc pins s1 σ1 H1 _ I1 (turn n σ1 H1 w1)) λb s2 ⟨H2,I2,q2⟩=>?_);cases b with
 | true=>
  obtain⟨N,hN,q2⟩:=q2;rw[xAu rfl];refine xEb hp (thn (hb pins s2 σ1 H2 _ I2 q2) λf s3 q3=>?_);cases f with
  | next=>
   obtain⟨σ3,H3,I3,n3⟩:=q3;obtain⟨m',hm,w3⟩:=hN σ3 H3 n3;exact⟨m',hm,σ3,H3,I3,w3⟩
  | cont=>
   obtain⟨σ3,H3,I3,n3⟩:=q3;obtain⟨m',hm,w3⟩:=hN σ3 H3 n3;exact⟨m',hm,σ3,H3,I3,w3⟩
  | brk=>exact q3
  | ret v=>exact q3
 | false=>
  rw[xAt xAv];exact xFz ⟨σ1,H2,I2,q2⟩
end

structure It where
 go:Nat->Hp->Prop
 yld:Nat->Hp->V->Hp->Prop
 stop:Nat->Hp->Prop
def mY (X:Cx)(pins:xPn)(H:Hp)(b:Addr):Prop:=
 H b=none/\b≠X.env.locals/\b∉X.fs/\(b∈X.ex\/X.s₀.heap.objs.size<=b)/\(∀ x c,X.env.cells.lookup x=some c->c≠b)/\∀ p∈X.pn++pins,p.1≠b
theorem Inv.fpOk {X:Cx}{pins:xPn}{σ:St}{H H':Hp}{s:Shared}{b:Addr}(I:Inv X pins σ H s)(hb:s.heap.objs.size<=b)(hn:H' b=none):mY X pins H' b:=by
 refine⟨hn,xGc (xBc I.lt hb),I.nofs hb,.inr (xAn I.sz hb),λx c e z=>?_,λp hp z=>?_⟩
 ·obtain⟨v,q⟩:=I.cell x c e;exact xAz (xBc q.lt (by rw[z]; exact hb)) (xDq _)
 ·exact xAz (xBc (xAs (I.pin p hp).1) (by rw[z]; exact hb)) (xDq _)
structure aAr (P:Program)(w:World)(K:xAb)(tg:Expr)(J:It)(fp:List Addr)(it:Addr)(tn:Nat->Heap->Prop):Prop where
 mem:it∈fp
 obj:∀ i h,tn i h->∀ b∈fp,∃ o,h.get? b=some o/\∀ v,o.data≠.cell v
 keep:∀ i h h',tn i h->(∀ b∈fp,∀ o,h.get? b=some o->h'.get? b=some o)->tn i h'
 item:∀ (X:Cx),X.prog=P->X.w=w->X.K=K->X.calm=true->∀ (i:Nat) (pins:xPn) (s:Shared) (σ:St) (H:Hp) (E:xVP),Inv X pins σ H s->(∀ b∈fp,mY X pins H b)->tn i s.heap->J.go i H ->
  wpAny (model P w) X.A (pyNext (.ref it)) (λr s1=>∃ u,r=some u /\
   wpAny (model P w) X.A (letOwnedTupleGo tg (.ref it) u) (λ_ s2=>∃ x H',Inv X pins σ H' s2/\cO x u/\J.yld i H x H'/\tn (i+1) s2.heap/\∀ b∈fp,H' b=none) E s1) E s
 done:∀ (X:Cx),X.prog=P->X.w=w->X.K=K->X.calm=true->∀ (i:Nat) (pins:xPn) (s:Shared) (σ:St) (H:Hp) (E:xVP),Inv X pins σ H s->(∀ b∈fp,mY X pins H b)->tn i s.heap->J.stop i H ->
  wpAny (model P w) X.A (pyNext (.ref it)) (λr s1=>r=none/\Inv X pins σ H s1) E s
 self:∀ (A:Around) (i:Nat) (s:Shared) (Q:xVP) (E:xVP),tn i s.heap->Q (.ref it) s->wpAny (model P w) A (pyIter (.ref it)) Q E s
abbrev TI:=St->Hp->(It->Hp->Prop)->Prop
def PIE (X:Cx)(pins:xPn)(σ:St)(tg:Expr)(R:It->Hp->Prop)(itv:Value)(s2:Shared):Prop:=
 ∃ (it:Addr) (fp:List Addr) (tn:Nat->Heap->Prop) (J:It) (H':Hp),itv=.ref it/\Inv X pins σ H' s2/\aAr X.prog X.w X.K tg J fp it tn/\tn 0 s2.heap/\(∀ b∈fp,mY X pins H' b)/\R J H'
def PI (X:Cx)(tg iter:Expr)(wi:TI):Prop:=
 ∀ (pins:xPn) (s:Shared) (σ:St) (H:Hp) (R:It->Hp->Prop),Inv X pins σ H s->wi σ H R ->
  wpAny (model X.prog X.w) X.A (eval iter X.env) (λv s1=>wpAny (model X.prog X.w) X.A (pyIter v) (PIE X pins σ tg R) X.xe s1) X.xe s

theorem aEq {M:Model}{A:Around}{E:xVP}{s:Shared}{tg:Expr}{it:Addr}{u:Value}{o:Obj}{n:String}{vs:Array Value}{Q:Unit->Shared->Prop}(ho:s.heap.get? it=some o)(hc:o.cls=.type n)(hd:o.data=.fields vs)
  (hn:["enumerate","zip","dict_itemiterator","dict_reverseitemiterator","odict_iterator","itertools.zip_longest","itertools.pairwise"].contains n=false)(hQ:Q () s):wpAny M A (letOwnedTupleGo tg (.ref it) u) Q E s:=by
 unfold letOwnedTupleGo
 cases tg <;> first
  | exact xAq hQ
  | (cases u <;> first
    | exact xAq hQ
    | (refine xAc (wpAny_load ho ?_)
       rw[hc,hd];show wpAny M A (if (["enumerate","zip","dict_itemiterator","dict_reverseitemiterator","odict_iterator","itertools.zip_longest","itertools.pairwise"].contains n&&vs[0]?==some (rawInt _))=true then _ else _) Q E s
       rw[xAt (by intro h; rw[hn,xEr] at h; cases h)];exact xAq hQ))

def Itl (K:xAb)(a:Addr):It:=
 ⟨λi H=>∃ xs x,SqL K H a xs/\xs[i]?=some x,λi H x H'=>H'=H/\∀ xs,SqL K H a xs->xs[i]?=some x,λi H=>∃ xs,SqL K H a xs/\xs.length<=i⟩
def Itr (lo:Int)(n:Nat):It:=⟨λi _=>i<n,λi H x H'=>H'=H/\x=.int (lo+i),λi _=>n<=i⟩
theorem aFg {P:Program}{w:World}{K:xAb}{tg:Expr}(a it:Addr):aAr P w K tg (Itl K a) [it] it (λi h=>h.IsListIter it a i) where
 mem:=by simp
 obj:=λi h st b hb=>by
  have e:b=it:=by simpa using hb
  subst e;obtain⟨o,e,c,d⟩:=st;exact⟨o,e,λv z=>by rw[d] at z; cases z⟩
 keep:=λi h h' st k=>st.at λo e=>k it (by simp) o e
 item:=by
  intro X hP hw hK hc i pins s σ H E I hf st hg;subst hP hw hK;obtain⟨xs,x,hq,hx⟩:=hg;obtain⟨its,rv,p,hz⟩:=I.list hq;obtain⟨u,hu,ru⟩:=rv.get hx;obtain⟨f0,f1,f2,f3,f4,f5⟩:=hf it (by simp);refine xIo st p.isList (x:=u) (by simpa using hu) λh' st' sb=>?_;have I1:Inv X pins σ H { s with heap:=h' }:=I.turned (t':=s.toks) (λb o hb e=>(sb.2 b hb).trans e) f0 f1 f3 f4 f5;obtain⟨o,e,c,d⟩:=id st';exact⟨u,rfl,aEq (s:={ s with heap:=h' }) e c d (by decide) ⟨x,H,I1,ru,⟨rfl,λys hy=>by rw[I.list_inj hy hq]; exact hx⟩,st',λb hb=>(hf b hb).1⟩⟩
 done:=by
  intro X hP hw hK hc i pins s σ H E I hf st hg;subst hP hw hK;obtain⟨xs,hq,hx⟩:=hg;obtain⟨its,rv,p,hz⟩:=I.list hq;obtain⟨f0,f1,f2,f3,f4,f5⟩:=hf it (by simp);have hl:=rv.length;exact xIw (I.ok.hd hc) st p.isList (by simp; omega) λh' eb=>⟨rfl,I.turned (t':=s.toks) (λb o hb e=>eb b o hb e) f0 f1 f3 f4 f5⟩
 self:=λ_ _ _ _ _ st h=>wpAny_pyIter_listiter st h
theorem aBb {P:Program}{w:World}{K:xAb}{tg:Expr}(it:Addr)(lo:Int)(n:Nat):aAr P w K tg (Itr lo n) [it] it (λi h=>IsRangeIter h it (lo+(i:Nat)*1) ((n:Int)-(i:Nat)) 1) where
 mem:=by simp
 obj:=λi h st b hb=>by
  have e:b=it:=by simpa using hb
  subst e
  exact⟨_,st,λv z=>by
   have z':Data.fields _=Data.cell v:=z;cases z'⟩
 keep:=λi h h' st k=>k it (by simp) _ st
 item:=by
  intro X hP hw hK hc i pins s σ H E I hf st hg;subst hP hw hK;obtain⟨f0,f1,f2,f3,f4,f5⟩:=hf it (by simp);have W:=Walks.range (prog:=X.prog) (w:=X.w) (I.ok.hd hc) it lo 1 n;refine W.item i s _ _ hg st λv h' tk hv st' kk=>?_;obtain⟨t,rfl⟩:=hv;have I1:Inv X pins σ H { s with heap:=h',toks:=tk }:=I.turned (λb o hb e=>kk b o (by simpa using hb) e) f0 f1 f3 f4 f5;refine⟨_,rfl,aEq (s:={ s with heap:=h',toks:=tk }) (n:="range_iterator") st' rfl rfl (by decide) ⟨.int (lo+i),H,I1,⟨t,?_⟩,⟨rfl,rfl⟩,st',λb hb=>(hf b hb).1⟩⟩;rw[Int.mul_one]
 done:=by
  intro X hP hw hK hc i pins s σ H E I hf st hg;subst hP hw hK;obtain⟨f0,f1,f2,f3,f4,f5⟩:=hf it (by simp);exact wpAny_pyNext_range_end (I.ok.hd hc) st (by have:n<=i:=hg; omega) λh' eb=>⟨rfl,I.turned (t':=s.toks) (λb o hb e=>eb b o hb e) f0 f1 f3 f4 f5⟩
 self:=λ_ _ _ _ _ st h=>wpAny_pyIter_rangeiter st h
section
variable {X:Cx}{tg:Expr}
inductive aYg (K:xAb)(x:V)(H1:Hp)(R:It->Hp->Prop):Prop
 | mk (a:Addr)(h1:x=.ref a)(h2:∃ xs,SqL K H1 a xs)(r:R (Itl K a) H1)
def aUj (K:xAb)(tl:TE):TI:=λσ H R=>tl σ H λx H1=>aYg K x H1 R
theorem cU {l:Expr}{tl:TE}(hl:PE X l tl):PI X tg l (aUj X.K tl):=by
 intro pins s σ H R I h;refine thn (hl pins s σ H _ I h) λv s1 ⟨x,H1,I1,r1,q1⟩=>?_;obtain⟨a,e,⟨xs,hq⟩,q⟩:=q1;subst e;cases r1;obtain⟨its,rv,p,hz⟩:=I1.list hq;refine xFm p.isList ?_;refine⟨s1.heap.objs.size,[s1.heap.objs.size],_,_,H1,rfl,I1.kept (t':=s1.toks) λb o e=>xAj _ e,aFg a _,⟨_,xAw _ rfl,rfl,rfl⟩,λb hb=>?_,q⟩;have e:b=s1.heap.objs.size:=by simpa using hb
 subst e;exact I1.fpOk (xAl _) (I1.hok.fresh (xAl _))
theorem aJc {pins:xPn}{σ:St}{H:Hp}{s:Shared}{R:It->Hp->Prop}{E:xVP}{lo hi:Int}{t u v:Tok}{tk:Nat}(I:Inv X pins σ H s)(h1:-(2^62)<=lo)(h2:lo<2^62)(h3:-(2^62)<=hi)(h4:hi<2^62)
  (q:R (Itr lo (hi-lo).toNat) H):wpAny (model X.prog X.w) X.A (pyIter (.ref s.heap.objs.size)) (PIE X pins σ tg R) E { s with heap:=s.heap.push { cls:=.type "range",data:=.fields #[.int lo t,.int hi u,.int 1 v] },toks:=tk }:=by
 refine wpAny_pyIter_range (IsRange.new ..) (small_one h1 h2 h3 h4) ?_;have I1:Inv X pins σ H { s with heap:=s.heap.push { cls:=.type "range",data:=.fields #[.int lo t,.int hi u,.int 1 v] },toks:=tk }:=I.kept λb o e=>xAj _ e
 refine⟨(s.heap.push { cls:=.type "range",data:=.fields #[.int lo t,.int hi u,.int 1 v] }).objs.size,[(s.heap.push { cls:=.type "range",data:=.fields #[.int lo t,.int hi u,.int 1 v] }).objs.size],_,_,H,rfl,
  I1.kept (t':=tk) λb o e=>xAj _ e,aBb _ lo (hi-lo).toNat,?_,λb hb=>?_,q⟩
 ·have e1:lo+((0:Nat):Int)*1=lo:=by simp
  have e2:(((hi-lo).toNat:Nat):Int)-((0:Nat):Int)=Builtin.Range.rangeSize lo hi 1:=by rw[rangeSize_one]; split <;> omega
  show IsRangeIter _ _ (lo+((0:Nat):Int)*1) ((((hi-lo).toNat:Nat):Int)-((0:Nat):Int)) 1;rw[e1,e2];exact xAw _ rfl
 ·have e:b=(s.heap.push { cls:=.type "range",data:=.fields #[.int lo t,.int hi u,.int 1 v] }).objs.size:=by simpa using hb
  subst e;exact I1.fpOk (xAl _) (I1.hok.fresh (xAl _))
inductive aYf (vs:List V)(H1:Hp)(R:It->Hp->Prop):Prop
 | mk (j:Int)(h1:vs=[.int j])(h2:-(2^62)<=j)(h3:j<2^62)(r:R (Itr 0 j.toNat) H1)
def aUi (ta:TA):TI:=λσ H R=>ta σ H λvs H1=>aYf vs H1 R
theorem gW {a:Expr}{ta:TA}{p pos:Pos}(hg:Gl X "range")(hm:X.mg "range" = none)(ha:PA X [a] ta)(hs:starEach [a] X.env=[(false,eval a X.env)]:=by rfl):PI X tg (.Call (.Name "range" p) [a] [] pos) (aUi ta):=by
 intro pins s σ H R I h;refine Call_ (oN I hg hm boot_range (xEd (thn (ha pos pins s σ H _ I h) λus s1 ⟨vs,H1,I1,r1,q1⟩=>?_) hs rfl));obtain⟨j,e,q1,q2,q⟩:=q1;subst e;cases r1 with
 | cons r rr=>
  cases rr;obtain⟨t,rfl⟩:=r;exact call_range_1 (aJc I1 (by omega) (by omega) q1 q2 (by simpa using q))

def aVq (wi:TI)(g:TG)(tb:TS):TS:=λD σ H=>wi σ H λJ H1=>∃ W:Nat->Nat->St->Hp->Prop,(∃ m,W 0 m σ H1)/\∀ i m σ H,W i m σ H ->
 (J.stop i H/\D.nx σ H)\/(J.go i H/\∃ N:St->Hp->Prop,(∀ σ' H',N σ' H'->∃ m',m'<m/\W (i+1) m' σ' H')/\∀ x H',J.yld i H x H'->g x σ H' λσ2 H2=>tb { D with nx:=N,ct:=N,bk:=D.nx } σ2 H2)
def tS (fp:List Addr)(h:Heap):List (Addr×Obj):=fp.filterMap λb=>(h.get? b).map λo=>(b,o)
theorem lC {fp:List Addr}{h:Heap}{b:Addr}{o:Obj}(hb:b∈fp)(e:h.get? b=some o):(b,o)∈tS fp h:=xCd.mpr ⟨b,hb,by rw[e]; rfl⟩
theorem aGs {fp:List Addr}{h:Heap}{p:Addr×Obj}(hp:p∈tS fp h):p.1∈fp/\h.get? p.1=some p.2:=by
 obtain⟨b,hb,e⟩:=xCd.mp hp;cases q:h.get? b with
 | none=>rw[q] at e; cases e
 | some o=>
  rw[q] at e;have e':(b,o)=p:=xBt e;subst e';exact⟨hb,q⟩
theorem Inv.pinned {pins:xPn}{σ:St}{H:Hp}{s:Shared}{fp:List Addr}(I:Inv X pins σ H s)(hf:∀ b∈fp,mY X pins H b)(ho:∀ b∈fp,∃ o,s.heap.get? b=some o/\∀ v,o.data≠.cell v):Inv X (pins++tS fp s.heap) σ H s:=
 I.pins_of λp hp=>(xBy.mp hp).elim (λz=>I.pin p (xBn _ z)) λz=>by
  obtain⟨hb,e⟩:=aGs z;obtain⟨f0,f1,f2,_⟩:=hf p.1 hb;obtain⟨o,e',d⟩:=ho p.1 hb;rw[e] at e'; cases e';exact⟨e,f0,f1,f2,d⟩
theorem Inv.unpinned {pins pl:xPn}{σ:St}{H:Hp}{s:Shared}(I:Inv X (pins++pl) σ H s):Inv X pins σ H s:=I.pins_of λp hp=>I.pin p (xBn _ (xDj _ hp))
theorem dZ {iter:Expr}{body:List Stmt}{wi:TI}{g:TG}{tb:TS}{pos:Pos}(hp:PassesOwn (model X.prog X.w) X.A X.env X.xe)(hc:X.calm=true)(hi:PI X tg iter wi)(hg:PG X tg g)(hb:PSs X body tb)
  (hs:∀ x,foldedSetIterable iter X.env x=pure x:=by intro _; rfl):PS X (.For tg iter body [] pos) (aVq wi g tb):=by
 intro pins s σ H D I h;refine wpAny_For (thn (hi pins s σ H _ I h) λv s1 h1=>thn h1 λitv s2 h2=>?_) hs;obtain⟨it,fp,tn,J,H2,e,I2,T,st2,f2,W,⟨m0,w0⟩,turn⟩:=h2;subst e
 -- what stays true of the iterator's objects through the loop
 have stat:∀ {H':Hp},(∀ b∈fp,H' b=none)->∀ b∈fp,mY X pins H' b:=λhn b hb=>⟨hn b hb,(f2 b hb).2⟩;refine codeAny_forLoop_any (λn s'=>∃ i σ' H',Inv X pins σ' H' s'/\tn i s'.heap/\(∀ b∈fp,H' b=none)/\W i n σ' H') ?_ m0 ⟨0,σ,H2,I2,st2,λb hb=>(f2 b hb).1,w0⟩;rintro n s3 ⟨i,σ3,H3,I3,st3,fr3,w3⟩;rcases turn i n σ3 H3 w3 with⟨stop,qn⟩ | ⟨go,N,hN,step⟩
 ·refine xEb hp (thn (T.done X rfl rfl rfl hc i pins s3 σ3 H3 X.xe I3 (stat fr3) st3 stop) λr s4 ⟨hr,I4⟩=>?_);subst hr;exact xFz ⟨σ3,H3,I4,qn⟩
 ·refine xEb hp (thn (T.item X rfl rfl rfl hc i pins s3 σ3 H3 X.xe I3 (stat fr3) st3 go) λr s4 ⟨u,hr,h4⟩=>?_);subst hr;refine xEb hp (thn h4 λ_ s5 ⟨x,H5,I5,r5,y5,st5,fr5⟩=>?_);have I5':=I5.pinned (stat fr5) (T.obj _ _ st5);refine xEb hp (thn (hg _ s5 σ3 H5 x u _ I5' r5 (step x H5 y5)) λ_ s6 ⟨σ6,H6,I6,q6⟩=>?_);refine xEb hp (thn (hb _ s6 σ6 H6 _ I6 q6) λf s7 q7=>?_)
  have again:∀ {σ7:St}{H7:Hp},Inv X (pins++tS fp s5.heap) σ7 H7 s7->N σ7 H7->∃ m,m<n/\∃ i σ' H',Inv X pins σ' H' s7/\tn i s7.heap/\(∀ b∈fp,H' b=none)/\W i m σ' H':=λ{σ7 H7} I7 n7=>by
   obtain⟨m',hm,w7⟩:=hN σ7 H7 n7;refine⟨m',hm,i+1,σ7,H7,I7.unpinned,T.keep _ _ _ st5 λb hb o e=>(I7.pin (b,o) (xBn _ (xBn _ (lC hb e)))).1,λb hb=>?_,w7⟩;obtain⟨o,e,d⟩:=T.obj _ _ st5 b hb;exact (I7.pin (b,o) (xBn _ (xBn _ (lC hb e)))).2.1
  cases f with
  | next=>obtain⟨σ7,H7,I7,n7⟩:=q7; exact again I7 n7
  | cont=>obtain⟨σ7,H7,I7,n7⟩:=q7; exact again I7 n7
  | brk=>obtain⟨σ7,H7,I7,q7⟩:=q7; exact⟨σ7,H7,I7.unpinned,q7⟩
  | ret v=>obtain⟨x7,σ7,H7,I7,r7,q7⟩:=q7; exact⟨x7,σ7,H7,I7.unpinned,r7,q7⟩
end

theorem dE {K:xAb}{a:Addr}{xs:List V}{g:TG}{tb:TS}{D:uW}{σ:St}{H:Hp}(Pv:Nat->St->Hp->Prop)(h0:Pv 0 σ H)(hl:∀ i σ H,i<=xs.length->Pv i σ H->SqL K H a xs)
  (hs:∀ i x σ H,xs[i]?=some x->Pv i σ H->g x σ H λσ2 H2=>tb { D with nx:=Pv (i+1),ct:=Pv (i+1),bk:=D.nx } σ2 H2)(hd:∀ σ H,Pv xs.length σ H->D.nx σ H) :
  ∃ W:Nat->Nat->St->Hp->Prop,(∃ m,W 0 m σ H)/\∀ i m σ H,W i m σ H ->
   ((Itl K a).stop i H/\D.nx σ H)\/((Itl K a).go i H/\∃ N:St->Hp->Prop,(∀ σ' H',N σ' H'->∃ m',m'<m/\W (i+1) m' σ' H')/\∀ x H',(Itl K a).yld i H x H'->g x σ H' λσ2 H2=>tb { D with nx:=N,ct:=N,bk:=D.nx } σ2 H2):=by
 refine⟨λi m σ H=>m=xs.length-i/\i<=xs.length/\Pv i σ H,⟨xs.length,by simp,xBr _,h0⟩,?_⟩;rintro i m σ H ⟨rfl,hi,p⟩;have q:=hl i σ H hi p
 by_cases hlt:i<xs.length
 ·refine .inr ⟨⟨xs,xs[i],q,by simp[hlt]⟩,Pv (i+1),λσ' H' p'=>⟨xs.length-(i+1),by omega,rfl,hlt,p'⟩,λx H' y=>?_⟩;obtain⟨e,y⟩:=y;subst e;exact hs i x σ _ (y xs q) p
 ·have e:i=xs.length:=by omega
  subst e;exact .inl ⟨⟨xs,q,xAl _⟩,hd σ H p⟩
theorem aHe {lo:Int}{n:Nat}{g:TG}{tb:TS}{D:uW}{σ:St}{H:Hp}(Pv:Nat->St->Hp->Prop)(h0:Pv 0 σ H)
  (hs:∀ i σ H,i<n->Pv i σ H->g (.int (lo+i)) σ H λσ2 H2=>tb { D with nx:=Pv (i+1),ct:=Pv (i+1),bk:=D.nx } σ2 H2)(hd:∀ σ H,Pv n σ H->D.nx σ H) :
  ∃ W:Nat->Nat->St->Hp->Prop,(∃ m,W 0 m σ H)/\∀ i m σ H,W i m σ H ->
   ((Itr lo n).stop i H/\D.nx σ H)\/((Itr lo n).go i H/\∃ N:St->Hp->Prop,(∀ σ' H',N σ' H'->∃ m',m'<m/\W (i+1) m' σ' H')/\∀ x H',(Itr lo n).yld i H x H'->g x σ H' λσ2 H2=>tb { D with nx:=N,ct:=N,bk:=D.nx } σ2 H2):=by
 refine⟨λi m σ H=>m=n-i/\i<=n/\Pv i σ H,⟨n,by simp,xBr _,h0⟩,?_⟩;rintro i m σ H ⟨rfl,hi,p⟩
 by_cases hlt:i<n
 ·refine .inr ⟨hlt,Pv (i+1),λσ' H' p'=>⟨n-(i+1),by omega,rfl,hlt,p'⟩,λx H' y=>?_⟩;obtain⟨e,y⟩:=y;subst e y;exact hs i σ _ hlt p
 ·have e:i=n:=by omega
  subst e;exact .inl ⟨xAl _,hd σ H p⟩

abbrev R2:=V->V->Hp->VK->Prop
def OpR (X:Cx)(f:Value->Value->Sem Value)(r:R2):Prop:=
 ∀ (pins:xPn) (s:Shared) (σ:St) (H:Hp) (x y:V) (v u:Value) (Q:VK),Inv X pins σ H s->cO x v->cO y u->r x y H Q ->
  wpAny (model X.prog X.w) X.A (f v u) (EP X pins σ Q) X.xe s
def CallR (X:Cx)(f:Value)(r:List V->Hp->VK->Prop):Prop:=
 ∀ (pins:xPn) (s:Shared) (σ:St) (H:Hp) (xs:List V) (us:List Value) (Q:VK),Inv X pins σ H s->cH xs us->r xs H Q ->
  wpAny (model X.prog X.w) X.A (call f us) (EP X pins σ Q) X.xe s
def aYa (X:Cx)(r:V->Hp->(Bool->Hp->Prop)->Prop):Prop:=
 ∀ (pins:xPn) (s:Shared) (σ:St) (H:Hp) (x:V) (v:Value) (Q:Bool->Hp->Prop),Inv X pins σ H s->cO x v->r x H Q ->
  wpAny (model X.prog X.w) X.A (truthy v) (TP X pins σ Q) X.xe s

def tOp (r:R2)(ta tb:TE):TE:=λσ H Q=>ta σ H λx H1=>tb σ H1 λy H2=>r x y H2 Q
def tUn (r:V->Hp->VK->Prop)(ta:TE):TE:=λσ H Q=>ta σ H λx H1=>r x H1 Q
inductive rI (C:Int->Int->Prop)(g:Int->Int->V)(x:V)(y:V)(H:Hp)(Q:VK):Prop
 | mk (i:_)(j:_)(h0_:x=.int i)(h1_:y=.int j)(h2_:C i j)(h3_:Q (g i j) H)
inductive rI0 (g:Int->Int->V)(x:V)(y:V)(H:Hp)(Q:VK):Prop
 | mk (i:_)(j:_)(h0_:x=.int i)(h1_:y=.int j)(h2_:Q (g i j) H)

section
variable {X:Cx}{a b c:Expr}{ta tb tc:TE}{pos:Pos}

theorem aSg (ha:PE X a ta)(hb:PE X b tb){pins:xPn}{s:Shared}{σ:St}{H:Hp}{R:V->V->Hp->Prop}(I:Inv X pins σ H s)
  (h:ta σ H λx H1=>tb σ H1 λy H2=>R x y H2){Q:xVP}{f:Value->Value->Sem Value}
  (hf:∀ v u s2 x y H2,Inv X pins σ H2 s2->cO x v->cO y u->R x y H2->wpAny (model X.prog X.w) X.A (f v u) Q X.xe s2) :
  wpAny (model X.prog X.w) X.A (eval a X.env) (λv s₁=>wpAny (model X.prog X.w) X.A (eval b X.env) (λu s₂=>wpAny (model X.prog X.w) X.A (f v u) Q X.xe s₂) X.xe s₁) X.xe s:=by
 refine thn (ha pins s σ H _ I h) λv s1 ⟨x,H1,I1,r1,q1⟩=>?_;refine thn (hb pins s1 σ H1 _ I1 q1) λu s2 ⟨y,H2,I2,r2,q2⟩=>?_;exact hf v u s2 x y H2 I2 r1 r2 q2

theorem bV {op:Operator}{r:R2}(ho:OpR X (binaryOp op) r)(ha:PE X a ta)(hb:PE X b tb):PE X (.BinOp a op b pos) (tOp r ta tb):=by
 intro pins s σ H Q I h;exact wpAny_BinOp (aSg ha hb I h λv u s2 x y H2 I2 rx ry q=>ho pins s2 σ H2 x y v u Q I2 rx ry q)

theorem opI {f:Value->Value->Sem Value}{C:Int->Int->Prop}{g:Int->Int->Int}
  (rule:∀ (i j:Int) (t u:Tok) (s:Shared) (Q:xVP) (E:xVP),C i j->Q (.int (g i j) s.toks) { s with toks:=s.toks+1 }->wpAny (model X.prog X.w) X.A (f (.int i t) (.int j u)) Q E s) :
  OpR X f (rI C λi j=>.int (g i j)):=by
 intro pins s σ H x y v u Q I rx ry h;obtain⟨i,j,rfl,rfl,hc,q⟩:=h;obtain⟨t,rfl⟩:=rx;obtain⟨t',rfl⟩:=ry;exact rule i j t t' s _ _ hc ⟨.int (g i j),H,I.tok _,⟨_,rfl⟩,q⟩
theorem aTu {f:Value->Value->Sem Value}{g:Int->Int->Int}
  (rule:∀ (i j:Int) (t u:Tok) (s:Shared) (Q:xVP) (E:xVP),Q (.int (g i j) s.toks) { s with toks:=s.toks+1 }->wpAny (model X.prog X.w) X.A (f (.int i t) (.int j u)) Q E s) :
  OpR X f (rI0 λi j=>.int (g i j)):=by
 intro pins s σ H x y v u Q I rx ry h;obtain⟨i,j,rfl,rfl,q⟩:=h;obtain⟨t,rfl⟩:=rx;obtain⟨t',rfl⟩:=ry;exact rule i j t t' s _ _ ⟨.int (g i j),H,I.tok _,⟨_,rfl⟩,q⟩
theorem aRk {f:Value->Value->Sem Value}{g:Int->Int->Bool}
  (rule:∀ (i j:Int) (t u:Tok) (s:Shared) (Q:xVP) (E:xVP),Q (.bool (g i j)) s->wpAny (model X.prog X.w) X.A (f (.int i t) (.int j u)) Q E s) :
  OpR X f (rI0 λi j=>.bl (g i j)):=by
 intro pins s σ H x y v u Q I rx ry h;obtain⟨i,j,rfl,rfl,q⟩:=h;obtain⟨t,rfl⟩:=rx;obtain⟨t',rfl⟩:=ry;exact rule i j t t' s _ _ ⟨.bl (g i j),H,I,rfl,q⟩

def aYj (i j:Int):Prop:=0<j/\j<1073741824
def aSm (i j:Int):Prop:=(-(2^64)<i/\i<2^64)\/(-(2^64)<j/\j<2^64)
theorem aSm.ok {i j:Int}(h:aSm i j):IntMulOk i j:=by
 rcases h with⟨h1,h2⟩ | ⟨h1,h2⟩
 ·exact .of_left (intBits_le_64 h1 h2)
 ·exact .of_right (intBits_le_64 h1 h2)

theorem eK:OpR X (binaryOp .Add) (rI0 λi j=>.int (i+j)):=aTu λ_ _ _ _ _ _ _ q=>add_int q
theorem aJo:OpR X (binaryOp .Sub) (rI0 λi j=>.int (i-j)):=aTu λ_ _ _ _ _ _ _ q=>sub_int q
theorem oJ:OpR X (binaryOp .Mult) (rI aSm λi j=>.int (i*j)):=opI λ_ _ _ _ _ _ _ hc q=>mul_int q hc.ok
theorem gJ:OpR X (binaryOp .FloorDiv) (rI aYj λi j=>.int (i/j)):=opI λi j _ _ _ _ _ hc q=>by
 have h1:(0:Int)<j:=hc.1;have h2:j<1073741824:=hc.2;exact floordiv_int (by omega) (by rw[Int.fdiv_eq_ediv_of_nonneg i (by omega)]; exact q) (.inl (PyProof.noPylong_small (by omega)))
theorem dQ:OpR X (binaryOp .Mod) (rI (λ_ j=>0<j) λi j=>.int (i%j)):=opI λi j _ _ _ _ _ hc q=>by
 have h1:(0:Int)<j:=hc;exact mod_int' (by omega) (by rw[Int.fmod_eq_emod_of_nonneg i (by omega)]; exact q)



end

def aTc:V->V->Bool
 | .non,.non=>true | .non,.int _=>true | .int _,.non=>true | .non,.bl _=>true | .bl _,.non=>true | .non,.str _=>true | .str _,.non=>true
 | .int _,.int _=>true | .bl _,.bl _=>true | .str _,.str _=>true | .byt _,.byt _=>true
 | .int _,.str _=>true | .str _,.int _=>true | .bl _,.str _=>true | .str _,.bl _=>true
 | _,_=>false
def rEq:R2:=λx y H Q=>aTc x y=true/\Q (.bl (decide (x=y))) H
def rNe:R2:=λx y H Q=>aTc x y=true/\Q (.bl (!decide (x=y))) H

theorem aEx {i j:Int}:decide (V.int i=V.int j)=(i==j):=by
 rw[xDc]
 simp
theorem aMb {i j:Bool}:decide (V.bl i=V.bl j)=(i==j):=by
 rw[xDc]
 simp
theorem aEw {i j:Str}:decide (V.str i=V.str j)=(i==j):=by
 rw[xDc]
 simp
theorem aEy {i j:Array UInt8}:decide (V.byt i=V.byt j)=(i.toList==j.toList):=by
 rw[xDc];cases i;cases j
 simp

section
variable {X:Cx}{a b c:Expr}{ta tb tc:TE}{pos:Pos}
theorem cW {pins:xPn}{σ:St}{H:Hp}{s:Shared}{Q:VK}{k k':Bool}(I:Inv X pins σ H s)(q:Q (.bl k) H)(e:k=k'):EP X pins σ Q (.bool k') s:=by
 subst e;exact⟨.bl k,H,I,rfl,q⟩
theorem eC:OpR X (compareOp .Eq) rEq:=by
 intro pins s σ H x y v u Q I rx ry h;obtain⟨hs,q⟩:=h;cases x with
 | non=>
  cases rx;cases y with
  | non=>cases ry; exact PySem.EqNone.eq_none_none (cW I q (by simp))
  | bl j=>cases ry; exact PySem.EqNone.eq_none_bool (cW I q (by simp))
  | int j=>obtain⟨t',rfl⟩:=ry; exact PySem.EqNone.eq_none_int (cW I q (by simp))
  | str j=>obtain⟨t',rfl⟩:=ry; exact PySem.EqNone.eq_none_str (cW I q (by simp))
  | _=>exact xAz (show false=true from hs) xAv
 | bl i=>
  cases rx;cases y with
  | non=>cases ry; exact PySem.EqNone.eq_bool_none (cW I q (by simp))
  | bl j=>cases ry; exact eq_bool (cW I q aMb)
  | str j=>obtain⟨t',rfl⟩:=ry; exact PySem.EqMixed.eq_bool_str (cW I q (by simp))
  | _=>exact xAz (show false=true from hs) xAv
 | int i=>
  obtain⟨t,rfl⟩:=rx;cases y with
  | non=>cases ry; exact PySem.EqNone.eq_int_none (cW I q (by simp))
  | int j=>obtain⟨t',rfl⟩:=ry; exact eq_int (cW I q aEx)
  | str j=>obtain⟨t',rfl⟩:=ry; exact PySem.EqMixed.eq_int_str (cW I q (by simp))
  | _=>exact xAz (show false=true from hs) xAv
 | str i=>
  obtain⟨t,rfl⟩:=rx;cases y with
  | non=>cases ry; exact PySem.EqNone.eq_str_none (cW I q (by simp))
  | bl j=>cases ry; exact PySem.EqMixed.eq_str_bool (cW I q (by simp))
  | int j=>obtain⟨t',rfl⟩:=ry; exact PySem.EqMixed.eq_str_int (cW I q (by simp))
  | str j=>obtain⟨t',rfl⟩:=ry; exact eq_str (cW I q aEw)
  | _=>exact xAz (show false=true from hs) xAv
 | byt i=>
  obtain⟨t,rfl⟩:=rx;cases y with
  | byt j=>obtain⟨t',rfl⟩:=ry; exact eq_bytes (cW I q aEy)
  | _=>exact xAz (show false=true from hs) xAv
 | _=>cases y <;> exact xAz (show false=true from hs) xAv
theorem rQ:OpR X (compareOp .NotEq) rNe:=by
 intro pins s σ H x y v u Q I rx ry h;obtain⟨hs,q⟩:=h;cases x with
 | non=>
  cases rx;cases y with
  | non=>cases ry; exact PySem.EqNone.ne_none_none (cW I q (by simp))
  | bl j=>cases ry; exact PySem.EqNone.ne_none_bool (cW I q (by simp))
  | int j=>obtain⟨t',rfl⟩:=ry; exact PySem.EqNone.ne_none_int (cW I q (by simp))
  | str j=>obtain⟨t',rfl⟩:=ry; exact PySem.EqNone.ne_none_str (cW I q (by simp))
  | _=>exact xAz (show false=true from hs) xAv
 | bl i=>
  cases rx;cases y with
  | non=>cases ry; exact PySem.EqNone.ne_bool_none (cW I q (by simp))
  | bl j=>cases ry; exact ne_bool (cW I q (congrArg not aMb))
  | str j=>obtain⟨t',rfl⟩:=ry; exact PySem.EqMixed.ne_bool_str (cW I q (by simp))
  | _=>exact xAz (show false=true from hs) xAv
 | int i=>
  obtain⟨t,rfl⟩:=rx;cases y with
  | non=>cases ry; exact PySem.EqNone.ne_int_none (cW I q (by simp))
  | int j=>obtain⟨t',rfl⟩:=ry; exact ne_int (cW I q (congrArg not aEx))
  | str j=>obtain⟨t',rfl⟩:=ry; exact PySem.EqMixed.ne_int_str (cW I q (by simp))
  | _=>exact xAz (show false=true from hs) xAv
 | str i=>
  obtain⟨t,rfl⟩:=rx;cases y with
  | non=>cases ry; exact PySem.EqNone.ne_str_none (cW I q (by simp))
  | bl j=>cases ry; exact PySem.EqMixed.ne_str_bool (cW I q (by simp))
  | int j=>obtain⟨t',rfl⟩:=ry; exact PySem.EqMixed.ne_str_int (cW I q (by simp))
  | str j=>obtain⟨t',rfl⟩:=ry; exact ne_str (cW I q (congrArg not aEw))
  | _=>exact xAz (show false=true from hs) xAv
 | byt i=>
  obtain⟨t,rfl⟩:=rx;cases y with
  | byt j=>obtain⟨t',rfl⟩:=ry; exact ne_bytes (cW I q (congrArg not aEy))
  | _=>exact xAz (show false=true from hs) xAv
 | _=>cases y <;> exact xAz (show false=true from hs) xAv

theorem zM:OpR X (compareOp .Lt) (rI0 λi j=>.bl (decide (i<j))):=aRk λ_ _ _ _ _ _ _ q=>lt_int q
theorem aPr:OpR X (compareOp .LtE) (rI0 λi j=>.bl (decide (i<=j))):=aRk λ_ _ _ _ _ _ _ q=>le_int q
theorem pJ:OpR X (compareOp .Gt) (rI0 λi j=>.bl (decide (j<i))):=aRk λ_ _ _ _ _ _ _ q=>gt_int q
theorem vX:OpR X (compareOp .In) (λx y H Q=>∃ i j,x=.str i/\y=.str j/\Q (.bl (!(Builtin.Str.occurrences j i 0 j.length 1).isEmpty)) H):=by
 intro pins s σ H x y v u Q I rx ry h;obtain⟨i,j,rfl,rfl,q⟩:=h;obtain⟨t,rfl⟩:=rx;obtain⟨t',rfl⟩:=ry;exact in_str (cW I q rfl)

theorem aBz:OpR X (compareOp .Is) (λx y H Q=>y=.non/\Q (.bl (decide (x=.non))) H):=by
 intro pins s σ H x y v u Q I rx ry h;obtain⟨rfl,q⟩:=h;cases ry;refine is_none_gen (cW I q ?_)
 cases x <;> first
  | (cases rx; rfl)
  | (obtain⟨t,rfl⟩:=rx; rfl)
theorem jS:OpR X (compareOp .IsNot) (λx y H Q=>y=.non/\Q (.bl (!decide (x=.non))) H):=by
 intro pins s σ H x y v u Q I rx ry h;obtain⟨rfl,q⟩:=h;cases ry;refine isnot_none_gen (cW I q ?_)
 cases x <;> first
  | (cases rx; rfl)
  | (obtain⟨t,rfl⟩:=rx; rfl)



theorem bC (b:Expr){op:CmpOp}(h:op≠.In:=by decide)(h2:op≠.NotIn:=by decide):behindInMarks op b=false:=by
 have e1:(op==CmpOp.In)=false:=by cases op <;> first | rfl | exact xAz rfl h
 have e2:(op==CmpOp.NotIn)=false:=by cases op <;> first | rfl | exact xAz rfl h2
 cases b <;> simp[behindInMarks,e1,e2]
theorem fS {op:CmpOp}{r:R2}(ho:OpR X (compareOp op) r)(ha:PE X a ta)(hb:PE X b tb)(hm:behindInMarks op b=false):PE X (.Compare a [op] [b] pos) (tOp r ta tb):=by
 intro pins s σ H Q I h;exact wpAny_Compare1 (aSg ha hb I h λv u s2 x y H2 I2 rx ry q=>ho pins s2 σ H2 x y v u Q I2 rx ry q) hm
def aSp (t:TE):TT:=λσ H Q=>t σ H λx H'=>aVi x H' Q
theorem aV {op:CmpOp}{r:R2}(ho:OpR X (compareOp op) r)(ha:PE X a ta)(hb:PE X b tb)(hm:behindInMarks op b=false):PT X (.Compare a [op] [b] pos) (aSp (tOp r ta tb)):=by
 intro pins s σ H Q I h
 refine xIx (thn (ha pins s σ H _ I h) λv s1 ⟨x,H1,I1,r1,q1⟩=>thn (hb pins s1 σ H1 _ I1 q1) λu s2 ⟨y,H2,I2,r2,q2⟩=>
  thn (ho pins s2 σ H2 x y v u _ I2 r1 r2 q2) λc s3 ⟨z,H3,I3,r3,k,e,q3⟩=>?_) hm
 subst e;cases r3;exact xCj ⟨H3,I3,q3⟩
def aQn (r r':R2)(ta tb tc:TE):TE:=λσ H Q=>ta σ H λx H1=>tb σ H1 λy H2=>r x y H2 λz H3=>∃ k,z=.bl k /\
 (if k=true then tc σ H3 λw' H4=>r' y w' H4 Q else Q (.bl false) H3)
theorem aJl {op op':CmpOp}{r r':R2}(ho:OpR X (compareOp op) r)(ho':OpR X (compareOp op') r')(ha:PE X a ta)(hb:PE X b tb)(hc:PE X c tc)
  (hm:lastMarks [op,op'] [b,c]=false:=by with_unfolding_all rfl):PE X (.Compare a [op,op'] [b,c] pos) (aQn r r' ta tb tc):=by
 intro pins s σ H Q I h
 refine Compare_chain (thn (ha pins s σ H _ I h) λv s1 ⟨x,H1,I1,r1,q1⟩=>chain_link (thn (hb pins s1 σ H1 _ I1 q1) λu s2 ⟨y,H2,I2,r2,q2⟩=>
  thn (ho pins s2 σ H2 x y v u _ I2 r1 r2 q2) λd s3 ⟨z,H3,I3,r3,k,e,q3⟩=>?_)) hm
 subst e;cases r3;refine xCj ?_;cases k with
 | false=>exact ite_ff ⟨.bl false,H3,I3,rfl,q3⟩
 | true=>exact ite_tt (chain_last (thn (hc pins s3 σ H3 _ I3 q3) λw' s4 ⟨z',H4,I4,r4,q4⟩=>ho' pins s4 σ H4 y z' u w' Q I4 r2 r4 q4))

def aUw (K:xAb)(x:V)(H:Hp)(k:Bool):Prop:=
 match x with
 | .non=>k=false
 | .bl b=>k=b
 | .int i=>k=(i != 0)
 | .str y=>y.length<=sizeLine/\k=((y.length:Int) != 0)
 | .byt y=>y.size<=sizeLine/\k=((y.size:Int) != 0)
 | .ref p=>(∃ xs,SqL K H p xs/\k=!xs.isEmpty)\/(∃ xs,SqT K H p xs/\k=!xs.isEmpty)\/∃ kvs,H p=some (.dK kvs)/\k=!kvs.isEmpty
 | _=>False
theorem aCz {κ:Type}{kvs:List (κ×V)}{vs:List (κ×Value)}(r:KV kvs vs):(!vs.isEmpty)=!kvs.isEmpty:=by
 cases r <;> rfl
theorem uC {xs:List V}{its:List Value}(r:cH xs its):(!its.toArray.isEmpty)=!xs.isEmpty:=by
 cases r <;> simp
theorem qX:(sizeLine:Nat)<2^63:=by rw[sizeLine_eq]; decide
theorem aQe:aYa X (λx H Q=>∃ k,aUw X.K x H k/\Q k H):=by
 intro pins s σ H x v Q I rx h;obtain⟨k,e,q⟩:=h;have hl:=qX;have hs:sizeLine=16777216:=sizeLine_eq;cases x with
 | non=>
  cases rx;have e':k=false:=e;subst e';exact truthy_none ⟨H,I,q⟩
 | bl b=>
  cases rx;have e':k=b:=e;subst e';exact xCj ⟨H,I,q⟩
 | int i=>
  obtain⟨t,rfl⟩:=rx;have e':k=(i != 0):=e;subst e';exact PySem.P.truthy_int ⟨H,I,q⟩
 | str y=>
  obtain⟨t,rfl⟩:=rx;obtain⟨hy,e'⟩:y.length<=sizeLine/\k=((y.length:Int) != 0):=e;subst e';exact PySem.P.truthy_str (by omega) ⟨H,I.tok _,q⟩
 | byt y=>
  obtain⟨t,rfl⟩:=rx;obtain⟨hy,e'⟩:y.size<=sizeLine/\k=((y.size:Int) != 0):=e;subst e';exact truthy_bytes (by omega) ⟨H,I.tok _,q⟩
 | ref p=>
  cases rx;have e':(∃ xs,SqL X.K H p xs/\k=!xs.isEmpty)\/(∃ xs,SqT X.K H p xs/\k=!xs.isEmpty)\/∃ kvs,H p=some (.dK kvs)/\k=!kvs.isEmpty:=e;rcases e' with⟨xs,hx,e'⟩ | ⟨xs,hx,e'⟩ | ⟨kvs,hx,e'⟩
  ·subst e';obtain⟨its,r,pl,hz⟩:=I.list hx;have hlen:=r.length;exact wpAny_truthy_list pl.isList (by simp only[List.size_toArray]; omega) ⟨H,I.tok _,by rw[uC r]; exact q⟩
  ·subst e';obtain⟨its,r,pl,hz⟩:=I.tuple hx;have hlen:=r.length;exact truthy_tuple pl (by simp only[List.size_toArray]; omega) ⟨H,I.tok _,by rw[uC r]; exact q⟩
  ·subst e';obtain⟨hz,hS,vs,r,m⟩:kvs.length<=sizeLine/\(p==sysModules)=false/\∃ vs,KV kvs vs/\s.heap.DictOf (dS X.prog X.w) p vs:=I.hok p _ hx;have hlen:kvs.length=vs.length:=Paired.length r;exact wpAny_truthy_dict hS m (by omega) ⟨H,I.tok _,by rw[aCz r]; exact q⟩
 | _=>exact (show False from e).elim
theorem tR (ha:PE X a ta)(he:∀ whole,isTrue a X.env whole=(do let v <- whole; standAt a.pos; holding [v] (truthy v))) :
  PT X a (λσ H Q=>ta σ H λx H'=>∃ k,aUw X.K x H' k/\Q k H'):=by
 intro pins s σ H Q I h;exact isTrue_plain (thn (ha pins s σ H _ I h) λv s1 ⟨x,H1,I1,r1,q1⟩=>aQe pins s1 σ H1 x v Q I1 r1 q1) (he _)

theorem tY:OpR X (binaryOp .Add) (λx y H Q=>∃ i j,x=.str i/\y=.str j/\i.length+j.length<=sizeLine/\Q (.str (i++j)) H):=by
 intro pins s σ H x y v u Q I rx ry h;obtain⟨i,j,rfl,rfl,hz,q⟩:=h;obtain⟨t,rfl⟩:=rx;obtain⟨t',rfl⟩:=ry;exact add_str (λt' tk=>⟨.str (i++j),H,I.tok _,⟨_,rfl⟩,q⟩) hz


theorem jN {x:V}{us:List Value}(r:cH [x] us):∃ u,us=[u]/\cO x u:=by
 cases r with
 | cons r1 r2=>cases r2; exact⟨_,rfl,r1⟩
theorem aHz {x y:V}{us:List Value}(r:cH [x,y] us):∃ u w',us=[u,w']/\cO x u/\cO y w':=by
 cases r with
 | cons r1 r2=>
  cases r2 with
  | cons r3 r4=>cases r4; exact⟨_,_,rfl,r1,r3⟩
theorem aHp:CallR X (.type "int") (λxs H Q=>(∃ i,xs=[.int i]/\Q (.int i) H)\/∃ k,xs=[.bl k]/\Q (.int (if k then 1 else 0)) H):=by
 intro pins s σ H xs us Q I r h;rcases h with⟨i,rfl,q⟩ | ⟨k,rfl,q⟩
 ·obtain⟨u,rfl,t,rfl⟩:=jN r;exact call_int_int ⟨.int i,H,I,⟨_,rfl⟩,q⟩
 ·obtain⟨u,rfl,r1⟩:=jN r;cases r1;exact call_int_bool ⟨.int (if k then 1 else 0),H,I.tok _,⟨_,rfl⟩,q⟩
theorem xX:CallR X (.type "str") (λxs H Q=>∃ i,xs=[.int i]/\i.natAbs.log2<1920/\Q (.str (toString i)) H):=by
 intro pins s σ H xs us Q I r h;obtain⟨i,rfl,hz,q⟩:=h;obtain⟨u,rfl,t,rfl⟩:=jN r;exact PySem.P.str_of_int hz ⟨.str _,H,I.tok _,⟨_,rfl⟩,q⟩
end

structure aDo (h:Heap)(x dx C:Addr)(mA:xSO):Prop where
 obj:h.get? x=some (instObj C dx)
 ns:h.Ns1 dx mA
 ne:dx≠x

theorem aGw {h:Heap}{dx:Addr}{mA:xSO}(n:h.Ns1 dx mA):∃ od,h.get? dx=some od/\∀ name,lookIn name od=some (mA name):=by
 obtain⟨o,es,ep,ho,hd,hk,_,hm⟩:=n;refine⟨o,ho,λname=>?_⟩;have e:=hm name;unfold nsFind findBy at e;rw[<- Array.find?_toList] at e;unfold lookIn;rw[hd];dsimp only;split
 ·rename_i y q
  rw[q] at e;exact congrArg some e
 ·rename_i q
  rw[q] at e
  have a:es.toList.any (·.refKey)=false:=by
   rw[List.any_eq_false];intro y hy;obtain⟨z,t,hkey⟩:=hk y (Array.mem_toList_iff.mp hy);simp[DictEntry.refKey,hkey]
  have a':¬ es.toList.any (·.refKey)=true:=by rw[a]; exact xAv
  rw[xAt a'];exact congrArg some e

theorem aDo.look {h:Heap}{x dx C:Addr}{mA:xSO}(I:aDo h x dx C mA):∃ od,InstAt h x (instObj C dx) C (some od)/\∀ name,lookIn name od=some (mA name):=
 let ⟨od,ho,hl⟩:=aGw I.ns
 ⟨od,⟨I.obj,rfl,rfl,ho⟩,hl⟩

section
variable {prog:Program}{w:World}{A:Around}{E:xVP}{s:Shared}{K:xAb}{x dx C f:Addr}{mA:xSO}{name:Str}{v:Value}

theorem aOq {expr:Bool}{Q:xVP}(X:K.In s.heap)(I:aDo s.heap x dx C mA)(hg:plainGet K C name=true)(hh:hasDictIn K C=true)
  (ha:findIn K (.ref C) name=some none)(hv:mA name=some v)(hv':handedIn v=true)(h:Q v { s with toks:=s.toks+1 }) :
  wpAny (model prog w) A (getAttr (.ref x) name expr) Q E s:=by
 obtain⟨od,J,hl⟩:=I.look;exact get_value X J (xGp hg).1 (findObj_own hh ha rfl (by rw[hl,hv])) hv' h


theorem aLr {pl:Sem Bool}{Q:Value×List Value->Shared->Prop}(X:K.In s.heap)(I:aDo s.heap x dx C mA)(hg:plainGet K C name=true)
  (hf:findIn K (.ref C) name=some (some (.ref f)))(ht:isFn K (.ref f)=true)(hv:mA name=none)(h:Q (.ref f,[.ref x]) s) :
  wpAny (model prog w) A (getMethod (.ref x) name pl) Q E s:=by
 obtain⟨od,J,hl⟩:=I.look;exact method_fn X J (xGp hg).1 (xGp hg).2 hf (xHc.mp ht) (by show (lookIn name od).map (·.isSome)=some false; rw[hl,hv]; rfl) h

theorem aNb {ns:List Str}{Q:Unit->Shared->Prop}(X:K.In s.heap)(I:aDo s.heap x dx C mA)
  (hs:findIn K (.ref C) "__setattr__" = some (some (.builtin "object.__setattr__")))(hp:plainOver K C=true)(ht:takerIn K C name=some none)(hh:hasDictIn K C=true)
  (hw:PySem.Within mA ns)(hsz:ns.length<=sizeLine)
  (h:∀ h',aDo h' x dx C (λy=>if y=name then some v else mA y)->Heap.SameBut dx s.heap h'->Q () { s with heap:=h',toks:=s.toks+2 }) :
  wpAny (model prog w) A (setAttr (.ref x) name v) Q E s:=by
 obtain⟨od,J,hl⟩:=I.look;refine set_plain X J hs (osa_open (s:={ s with toks:=s.toks+1 }) (r:=none) X J hp ht λb=>?_);obtain⟨cd,hc,hd'⟩:=any_some hh;have hx:s.heap.get? x=some ⟨.ref C,some dx,.plain,#[]⟩:=I.obj;refine xAc (xAq (xAc (xAc (wpAny_loadPart hx (xAc (Looks.here (s:={ s with toks:=s.toks+1 }) (looks_clsIn X hc) ?_))))));rw[hd'];refine xAq (a:=some dx) (xAc (xAq (xAc ?_)));refine wpAny_nsSet1 (s:={ s with toks:=s.toks+1 }) I.ns λh' hn2 hs2=>?_;obtain⟨oD,esD,epD,hoD,hdD,hcD⟩:=hn2.count (PySem.Within.cons name v hw);refine xAc (wpAny_lookBehind hoD (by rw[hdD]; exact pastItsLine_dict (xAn hcD (by rw[xBm]; omega))) ?_);exact xAq (h _ ⟨(hs2.2 _ (Ne.symm I.ne)).trans I.obj,hn2,I.ne⟩ hs2)

theorem aLg {R:Result->Shared->Prop}{vs:List Value}{kw:List (Str×Value)}(X:K.In s.heap)(hm:makesIn K C=true)
  (hi:findIn K (.ref C) "__init__" = some (some (.ref f)))(hf:typeIn K (.ref f)=some (.type "function"))
  (h:codeAny (model prog w) (A.under (.builtin "type.__call__" ⟨.ref C::vs,kw⟩)) (.call (.ref f) ⟨.ref (s.heap.objs.size+1)::vs,kw⟩) (InitBack (s.heap.objs.size+1) R)
   { s with heap:=(s.heap.push emptyDict).push (instObj C s.heap.objs.size) }) :
  codeAny (model prog w) A (.call (.ref C) ⟨vs,kw⟩) R s:=by
 obtain⟨hh,g,d,t,os⟩:=s;exact make_core (makes_of X hm) (looks_findIn X hi) (λself=>bind_fn X self hf) (.inl rfl) h
end

def gO (f:Str)(v:V):List (Str×V)->List (Str×V)
 | []=>[(f,v)]
 | (g,x)::r=>if g=f then (g,v)::r else (g,x)::gO f v r
theorem rS (f g:Str)(v:V):∀ fs:List (Str×V),(gO f v fs).lookup g=if g=f then some v else fs.lookup g
 | []=>by
  show List.lookup g [(f,v)]=_
  by_cases h:g=f
  ·have hb:(g==f)=true:=xHc.mpr h;simp only[List.lookup,hb,if_pos h]
  ·have hb:(g==f)=false:=xCs.mpr h;simp only[List.lookup,hb,if_neg h]
 | (k,x)::r=>by
  have ih:=rS f g v r;rw[show gO f v ((k,x)::r)=(if k=f then (k,v)::r else (k,x)::gO f v r) from rfl]
  by_cases hk:k=f
  ·rw[xAu hk]
   by_cases h:g=k
   ·have hb:(g==k)=true:=xHc.mpr h;simp only[List.lookup,hb,if_pos (h.trans hk)]
   ·have hb:(g==k)=false:=xCs.mpr h;simp only[List.lookup,hb,if_neg (λe:g=f=>h (e.trans hk.symm))]
  ·rw[xAt hk]
   by_cases h:g=k
   ·have hb:(g==k)=true:=xHc.mpr h;simp only[List.lookup,hb,if_neg (λe:g=f=>hk (h.symm.trans e))]
   ·have hb:(g==k)=false:=xCs.mpr h;simp only[List.lookup,hb];exact ih
theorem rD (f:Str)(v:V):∀ fs:List (Str×V),f∈(gO f v fs).map (·.1)/\∀ g,g∈fs.map (·.1)->g∈(gO f v fs).map (·.1)
 | []=>⟨by simp[gO],λg h=>by simp at h⟩
 | (k,x)::r=>by
  obtain⟨i1,i2⟩:=rD f v r;rw[show gO f v ((k,x)::r)=(if k=f then (k,v)::r else (k,x)::gO f v r) from rfl]
  by_cases hk:k=f
  ·rw[xAu hk];subst hk;exact⟨by simp,λg h=>by simpa using h⟩
  ·rw[xAt hk];refine⟨?_,λg h=>?_⟩
   ·rw[xCa];exact xBg _ i1
   ·rw[xCa] at h ⊢;rcases xAo.mp h with e | e
    ·exact xAo.mpr (.inl e)
    ·exact xBg _ (i2 g e)
theorem rU (f:Str)(v:V):∀ fs:List (Str×V),(gO f v fs).length<=fs.length+1
 | []=>by simp[gO]
 | (k,x)::r=>by
  have ih:=rU f v r;rw[show gO f v ((k,x)::r)=(if k=f then (k,v)::r else (k,x)::gO f v r) from rfl]
  by_cases hk:k=f
  ·rw[xAu hk,xBm,xBm]; omega
  ·rw[xAt hk,xBm,xBm]; omega

theorem lJ.some_of {v:V}{o:Option Value}(r:lJ (some v) o):∃ u,o=some u/\cO v u:=by
 cases o with
 | none=>exact (show False from r).elim
 | some u=>exact⟨u,rfl,r⟩
theorem lJ.none_of {o:Option Value}(r:lJ none o):o=none:=by
 cases o with
 | none=>rfl
 | some u=>exact (show False from r).elim
theorem aHd {v:V}{u:Value}(r:cO v u):handedIn u=true:=by
 cases v with
 | non=>cases (show u=Value.none from r); rfl
 | bl b=>cases (show u=Value.bool b from r); rfl
 | int i=>obtain⟨t,e⟩:=(show ∃ t,u=Value.int i t from r); cases e; rfl
 | str x=>obtain⟨t,e⟩:=(show ∃ t,u=Value.str x t from r); cases e; rfl
 | byt b=>obtain⟨t,e⟩:=(show ∃ t,u=Value.bytes b t from r); cases e; rfl
 | flt b=>obtain⟨t,e⟩:=(show ∃ t,u=Value.float b t from r); cases e; rfl
 | ref a=>cases (show u=Value.ref a from r); rfl
 | ty n=>cases (show u=Value.type n from r); rfl

section
variable {P:Program}{w:World}{H H':Hp}{h h':Heap}{a C dx:Addr}{fs fs':List (Str×V)}
theorem nO (hok:HOk P w H h)(e:H a=some (.ins C dx fs)):∃ mA,aDo h a dx C mA/\(∀ f,lJ (fs.lookup f) (mA f))/\PySem.Within mA (fs.map (·.1))/\fs.length<=1000/\H dx=some (.own a):=by
 obtain⟨d,z,ne,ob,mA,n,r,q⟩:=(show dP P w H h a (.ins C dx fs) from hok a _ e)
 exact⟨mA,⟨ob,n,ne⟩,r,q,z,d⟩
end

structure Cls (K:xAb)(C:Addr):Prop where
 pg:plainGet K C Str.empty=true
 hd:hasDictIn K C=true
 po:plainOver K C=true
 sa:findIn K (.ref C) "__setattr__" = some (some (.builtin "object.__setattr__"))
theorem Cls.get {K:xAb}{C:Addr}(c:Cls K C)(f:Str):plainGet K C f=true:=c.pg
def dD (K:xAb)(C:Addr)(f:Str):Prop:=findIn K (.ref C) f=some none
theorem dD.taker {K:xAb}{C:Addr}{f:Str}(n:dD K C f):takerIn K C f=some none:=by
 unfold takerIn;rw[show findIn K (.ref C) f=some none from n]
 rfl
structure eE (K:xAb)(C:Addr)(m:Str)(f:Addr):Prop where
 at_:findIn K (.ref C) m=some (some (.ref f))
 fn:isFn K (.ref f)=true
 kp:keepIn K (.ref f)=true

section
variable {X:Cx}{pins:xPn}{σ:St}{H:Hp}{s:Shared}{a C dx:Addr}{fs:List (Str×V)}{f:Str}{v:V}{A:Around}{E:xVP}

theorem aDb {b:Bool}{Q:xVP}(I:Inv X pins σ H s)(e:H a=some (.ins C dx fs))(c:Cls X.K C)(n:dD X.K C f)(l:fs.lookup f=some v)
  (h:∀ u s',Inv X pins σ H s'->cO v u->Q u s'):wpAny (model X.prog X.w) A (getAttr (.ref a) f b) Q E s:=by
 obtain⟨mA,O,r,_,_,_⟩:=nO I.hok e;obtain⟨u,hu,ru⟩:=lJ.some_of (v:=v) (o:=mA f) (by rw[<- l]; exact r f);exact aOq I.kIn O (c.get f) c.hd n hu (aHd ru) (h u _ (I.tok _) ru)


theorem lD {m:Str}{g:Addr}{pl:Sem Bool}{Q:Value×List Value->Shared->Prop}(I:Inv X pins σ H s)(e:H a=some (.ins C dx fs))(c:Cls X.K C)(k:eE X.K C m g)(l:fs.lookup m=none)
  (h:Q (.ref g,[.ref a]) s):wpAny (model X.prog X.w) A (getMethod (.ref a) m pl) Q E s:=by
 obtain⟨mA,O,r,_,_,_⟩:=nO I.hok e;have hn:mA m=none:=lJ.none_of (by rw[<- l]; exact r m);exact aLr I.kIn O (c.get m) k.at_ k.fn hn h

theorem aBk {y:V}{u:Value}{Q:Unit->Shared->Prop}(I:Inv X pins σ H s)(e:H a=some (.ins C dx fs))(c:Cls X.K C)(n:dD X.K C f)(hl:fs.length<1000)(ry:cO y u)
  (h:∀ s',Inv X pins σ (upd H a (.ins C dx (gO f y fs))) s'->Q () s'):wpAny (model X.prog X.w) A (setAttr (.ref a) f u) Q E s:=by
 obtain⟨mA,O,r,wi,_,ho⟩:=nO I.hok e;have hz:(fs.map (·.1)).length<=sizeLine:=by rw[xAa,sizeLine_eq]; omega
 refine aNb I.kIn O c.sa c.po n.taker c.hd wi hz λh' O' sb=>h _ ?_;have hd:∃ o,h'.get? dx=some o:=let ⟨o,_,_,e',_⟩:=O'.ns; ⟨o,e'⟩;refine I.write (x:=a) (e:=dx) (by rw[e]; exact True.intro) (.inr ho) (λb q hb z=>(sb.2 b hb).trans z) hd ?_;refine⟨by rw[aL O.ne]; exact ho,?_,O.ne,O'.obj,_,O'.ns,λg=>?_,λg hg=>?_⟩
 ·have:=rU f y fs; omega
 ·show lJ ((gO f y fs).lookup g) (if g=f then some u else mA g)
  rw[rS]
  by_cases q:g=f
  ·rw[xAu q,xAu q]; exact ry
  ·rw[xAt q,xAt q]; exact r g
 ·by_cases q:g=f
  ·rw[q]; exact (rD f y fs).1
  ·refine (rD f y fs).2 g (wi g λz=>hg ?_);show (if g=f then some u else mA g)=none
   rw[xAt q]; exact z

theorem Inv.made (I:Inv X pins σ H s):Inv X pins σ (upd (upd H s.heap.objs.size (.own (s.heap.objs.size+1))) (s.heap.objs.size+1) (.ins C s.heap.objs.size []))
  { s with heap:=(s.heap.push emptyDict).push (instObj C s.heap.objs.size) }:=by
 have e1:(s.heap.push emptyDict).get? s.heap.objs.size=some emptyDict:=xAw s.heap rfl
 have e2:((s.heap.push emptyDict).push (instObj C s.heap.objs.size)).get? (s.heap.objs.size+1)=some (instObj C s.heap.objs.size):=by
  have:=xAw (s.heap.push emptyDict) (o:=instObj C s.heap.objs.size) rfl
  rwa [xDu] at this
 have e3:(s.heap.push emptyDict).Ns s.heap.objs.size (λ_=>none):=⟨emptyDict,#[],_,e1,rfl,(λe he=>xAz he (by simp)),λ_=>rfl⟩;have I1:=I.laid (a:=s.heap.objs.size) (o:=.own (s.heap.objs.size+1)) (h':=s.heap.push emptyDict) (t':=s.toks) (λb u q=>xAj _ q) (xAl _) ⟨_,e1⟩;refine I1.laid (a:=s.heap.objs.size+1) (o:=.ins C s.heap.objs.size []) (t':=s.toks) (λb u q=>xAj _ q) (Nat.le_of_eq (xDu _ _)) ?_;have ne:s.heap.objs.size≠s.heap.objs.size+1:=xBi (xHn _);refine⟨by rw[aL ne,aE],xBr _,ne,e2,λ_=>none,(Heap.Ns1.of_empty e3).at λo q=>xAj _ q,λ_=>True.intro,λy hy=>xAz rfl hy⟩

theorem aOw {prog:Program}{w:World}{env:Env}{e:Expr}{f:Str}{pos:Pos}{s:Shared}{Q:xVP}(hb:attributeBase e f env (eval e env)=eval e env)
  (h:wpAny (model prog w) A (eval e env) (λo s₁=>wpAny (model prog w) A (getAttr o f true) Q E s₁) E s):wpAny (model prog w) A (eval (.Attribute e f pos) env) Q E s:=
 Attribute_any_ h (by rw[arm_eval_Attribute,hb])
end

inductive aVh (K:xAb)(f:Str)(x:V)(H1:Hp)(Q:VK):Prop
 | mk (a C dx:Addr)(fs:List (Str×V))(v:V)(h1:x=.ref a)(h2:H1 a=some (.ins C dx fs))(h3:Cls K C)(h4:dD K C f)(h5:fs.lookup f=some v)(q:Q v H1)
def aQi (K:xAb)(ta:TE)(f:Str):TE:=λσ H Q=>ta σ H λx H1=>aVh K f x H1 Q
inductive aVc (K:xAb)(f:Str)(x y:V)(H2:Hp)(R:Hp->Prop):Prop
 | mk (a C dx:Addr)(fs:List (Str×V))(h1:x=.ref a)(h2:H2 a=some (.ins C dx fs))(h3:Cls K C)(h4:dD K C f)(h5:fs.length<1000)(q:R (upd H2 a (.ins C dx (gO f y fs))))
def aXc (K:xAb)(ta tv:TE)(f:Str):TS:=λD σ H=>tv σ H λy H1=>ta σ H1 λx H2=>aVc K f x y H2 (D.nx σ)

section
variable {X:Cx}{o e value:Expr}{f:Str}{pos pos' tpos:Pos}{ta tv:TE}
theorem cE (he:PE X e ta)(hb:attributeBase e f X.env (eval e X.env)=eval e X.env):PE X (.Attribute e f pos) (aQi X.K ta f):=by
 intro pins s σ H Q I h;refine aOw hb (thn (he pins s σ H _ I h) λu s1 ⟨x,H1,I1,rx,a,C,dx,fs,v,ex,ea,c,n,l,q⟩=>?_);subst ex;obtain rfl:u=Value.ref a:=rx;exact aDb I1 ea c n l λu' s2 I2 ru=>⟨v,H1,I2,ru,q⟩
theorem gL (ha:PE X o ta)(hv:PE X value tv)(hs:swapsWith value (some (.Attribute o f pos')) pos.line X.env=pure false):PS X (.Assign [.Attribute o f pos'] value pos) (aXc X.K ta tv f):=by
 intro pins s σ H D I h;refine plainObj_wpAny_Assign_Attribute (thn (hv pins s σ H _ I h) λu s1 ⟨y,H1,I1,ry,q⟩=>thn (ha pins s1 σ H1 _ I1 q) λov s2 ⟨x,H2,I2,rx,a,C,dx,fs,ex,ea,c,n,l,q2⟩=>?_) hs;subst ex;obtain rfl:ov=Value.ref a:=rx;exact aBk I2 ea c n l ry λs3 I3=>⟨σ,_,I3,q2⟩

end

section
variable {X:Cx}{pins:xPn}{σ:St}{H:Hp}{s:Shared}{A:Around}{E:xVP}{Q:xVP}{c:Value}{b:Bool}
inductive jY (K:xAb)(H:Hp):V->Value->Prop where
 | non:jY K H .non (.type "NoneType")
 | bl (x:Bool):jY K H (.bl x) (.type "bool")
 | int (i:Int):jY K H (.int i) (.type "int")
 | str (x:Str):jY K H (.str x) (.type "str")
 | flt (x:UInt64):jY K H (.flt x) (.type "float")
 | lst {a:Addr}{xs:List V}(e:H a=some (.lst xs)):jY K H (.ref a) (.type "list")
 | frz {a:Addr}{o:Obj}{xs:List V}(e:H a=some (.frz o (.lst xs))):jY K H (.ref a) (.type "list")
 | tup {a:Addr}{xs:List V}(e:H a=some (.tup xs)):jY K H (.ref a) (.type "tuple")
 | dK {a:Addr}{kvs:List (Key×V)}(e:H a=some (.dK kvs)):jY K H (.ref a) (.type "dict")
 | dT {a:Addr}{kvs:List (List Key×V)}(e:H a=some (.dT kvs)):jY K H (.ref a) (.type "dict")
 | ins {a C dx:Addr}{fs:List (Str×V)}(e:H a=some (.ins C dx fs)) (cl:Cls K C) (ha:findIn K (.ref C) "__class__" = some (some (.builtin "object.__class__")))
   (hn:specialIn K (.builtin "object.__class__") "__get__" = some (some (.builtin "getset_descriptor.__get__")))(htk:takesIn K (.builtin "object.__class__")=some true)
   (hm:mroIn K C (.type "object")=some true):jY K H (.ref a) (.ref C)
theorem aHa {x:V}{u t:Value}(I:Inv X pins σ H s)(rx:cO x u)(ty:jY X.K H x t)(e:kitOne X.K t c=some b)(h:∀ tk,Q (.bool b) { s with toks:=tk }) :
  wpAny (model X.prog X.w) A (call (.builtin "isinstance") [u,c]) Q E s:=by
 cases ty with
 | non=>cases (show u=Value.none from rx); exact xCp kitx_none I.kIn True.intro e (λz=>nomatch z) h
 | bl y=>cases (show u=Value.bool y from rx); exact xCp kitx_bool I.kIn True.intro e (λz=>nomatch z) h
 | int i=>obtain⟨t,q⟩:=(show ∃ t,u=Value.int i t from rx); cases q; exact xCp kitx_int I.kIn True.intro e (λz=>nomatch z) h
 | str y=>obtain⟨t,q⟩:=(show ∃ t,u=Value.str y t from rx); cases q; exact xCp kitx_str I.kIn True.intro e (λz=>nomatch z) h
 | flt y=>obtain⟨t,q⟩:=(show ∃ t,u=Value.float y t from rx); cases q; exact xCp kitx_float I.kIn True.intro e (λz=>nomatch z) h
 | @lst a xs ea=>
  cases (show u=Value.ref a from rx)
  obtain⟨_,_,n,_,h1⟩:=(show dP X.prog X.w H s.heap a (.lst xs) from I.hok a _ ea)
  exact xCp kitx_list I.kIn ⟨_,h1,rfl⟩ e (λz=>nomatch z) h
 | @frz a ob xs ea=>
  cases (show u=Value.ref a from rx)
  obtain⟨_,_,_,n,_,h1⟩:=(show dP X.prog X.w H s.heap a (.frz ob (.lst xs)) from I.hok a _ ea)
  exact xCp kitx_list I.kIn ⟨_,h1,rfl⟩ e (λz=>nomatch z) h
 | @tup a xs ea=>
  cases (show u=Value.ref a from rx)
  obtain⟨_,_,_,p⟩:=(show dP X.prog X.w H s.heap a (.tup xs) from I.hok a _ ea)
  obtain⟨o,h1,h2,_⟩:=p;exact xCp kitx_tuple I.kIn ⟨o,h1,h2⟩ e (λz=>nomatch z) h
 | @dK a kvs ea=>
  cases (show u=Value.ref a from rx)
  obtain⟨_,_,vs,_,p⟩:=(show dP X.prog X.w H s.heap a (.dK kvs) from I.hok a _ ea)
  obtain⟨o,es,ep,h1,h2,_⟩:=p;exact xCp kitx_dict I.kIn ⟨o,h1,h2.1⟩ e (λz=>nomatch z) h
 | @dT a kvs ea=>
  cases (show u=Value.ref a from rx)
  obtain⟨_,_,xs,_,o,es,ep,h1,h2,_⟩:=(show dP X.prog X.w H s.heap a (.dT kvs) from I.hok a _ ea)
  exact xCp kitx_dict I.kIn ⟨o,h1,h2.1⟩ e (λz=>nomatch z) h
 | @ins a C dx fs ea cl ha hn htk hm=>
  cases (show u=Value.ref a from rx)
  obtain⟨mA,O,_⟩:=nO I.hok ea;obtain⟨od,J,_⟩:=O.look;exact xCp (kitx_own (cl.get _) cl.hd ha hn htk hm) I.kIn J e (λz=>nomatch z) h
end

structure cM (k:Nat)(A:Around):Prop where
 hd:A.handled=none
 dp:A.depth+3*k+5<recursionLimit
 un:A.units+16*k+200<cLine
theorem cM.mono {j k:Nat}{A:Around}(r:cM k A)(h:j<=k):cM j A:=⟨r.hd,by have:=r.dp; omega,by have:=r.un; omega⟩
theorem cM.deeper {k:Nat}{A:Around}(r:cM (k+1) A)(env:Env):cM k (A.deeper env):=
 ⟨r.hd,by have:=r.dp; show A.depth+1+3*k+5<_; omega,by have:=r.un; show A.units+3+16*k+200<_; omega⟩
theorem aCs {A:Around}{C:Addr}{us:List Value}{kw:List (Str×Value)}:(A.under (.builtin "type.__call__" ⟨.ref C::us,kw⟩)).depth=A.depth+1:=by
 first | rfl | simp[Around.under,Code.weight,Code.isCreation,Code.isGuard,Code.isCaller,Code.frames,Code.isFrame,guardIds]
theorem aCr {A:Around}{C:Addr}{us:List Value}{kw:List (Str×Value)}:(A.under (.builtin "type.__call__" ⟨.ref C::us,kw⟩)).units=A.units+1:=by
 first | rfl | simp[Around.under,Code.cUnits,Code.frames,Code.isFrame]
theorem cM.make {k:Nat}{A:Around}(r:cM (k+1) A)(C:Addr)(us:List Value)(kw:List (Str×Value)):cM k (A.under (.builtin "type.__call__" ⟨.ref C::us,kw⟩)):=
 ⟨r.hd,by have:=r.dp; rw[aCs]; omega,by have:=r.un; rw[aCr]; omega⟩
theorem cM.depth {k:Nat}{A:Around}(r:cM k A):A.depth<recursionLimit:=by have:=r.dp; omega
theorem cM.units {k:Nat}{A:Around}(r:cM k A):A.units+64<cLine:=by have:=r.un; omega

def aBd:TA:=λ_ H Q=>Q [] H
def rL (ta:TE)(tr:TA):TA:=λσ H Q=>ta σ H λx H1=>tr σ H1 λxs H2=>Q (x::xs) H2
section
variable {X:Cx}{e:Expr}{es:List Expr}{te:TE}{t:TA}{pos:Pos}
theorem aF:PA X [] aBd:=λ_ _ _ _ H Q I h=>xHj ⟨[],H,I,.nil,h⟩
theorem iR (ha:PE X e te)(hr:PA X es t)(hs:starEach (e::es) X.env=(false,eval e X.env)::starEach es X.env:=by rfl):PA X (e::es) (rL te t):=by
 intro pos pins s σ H Q I h;rw[hs];show wpAny _ _ (spliced ((false,eval e X.env)::backTo pos (starEach es X.env))) _ _ s;refine xEa (thn (ha pins s σ H _ I h) λu s1 ⟨x,H1,I1,r1,q1⟩=>?_);exact thn (hr pos pins s1 σ H1 _ I1 q1) λus s2 ⟨xs,H2,I2,r2,q2⟩=>⟨x::xs,H2,I2,.cons r1 r2,q2⟩

def aSo (t:TA):TE:=λσ H Q=>t σ H λxs H1=>xs.length<=sizeLine/\∀ p,H1 p=none->Q (.ref p) (upd H1 p (.tup xs))
def aFj (t:TA):TE:=λσ H Q=>t σ H λxs H1=>xs.length<=sizeLine/\∀ p,H1 p=none->Q (.ref p) (upd H1 p (.lst xs))
theorem dL {x1}(h:PA X es t):PE X (.Tuple es x1 pos) (aSo t):=by
 intro pins s σ H Q I hq;refine wpAny_Tuple_spliced (thn (h pos pins s σ H _ I hq) λus s1 ⟨xs,H1,I1,r,z,q⟩=>⟨by rw[<- r.length]; exact z,?_⟩);have hf:H1 s1.heap.objs.size=none:=I1.hok.fresh (xAl _);refine⟨.ref s1.heap.objs.size,upd H1 s1.heap.objs.size (.tup xs),I1.laid (t':=s1.toks) (λb u e=>xAj _ e) (xAl _) ?_,rfl,q _ hf⟩;exact⟨z,us,r,⟨_,xAw _ rfl,rfl,_,rfl⟩⟩
theorem cA (h:PA X es t):PE X (.List es pos) (aFj t):=by
 intro pins s σ H Q I hq;refine wpAny_List_spliced (thn (h pos pins s σ H _ I hq) λus s1 ⟨xs,H1,I1,r,z,q⟩=>⟨by rw[<- r.length]; exact z,?_⟩);have hf:H1 s1.heap.objs.size=none:=I1.hok.fresh (xAl _);refine⟨.ref s1.heap.objs.size,upd H1 s1.heap.objs.size (.lst xs),I1.laid (t':=s1.toks) (λb u e=>xAj _ e) (xAl _) ?_,rfl,q _ hf⟩;exact⟨z,us,0,r,xAw _ rfl⟩
end

abbrev Sp:=List V->Hp->VK->XK->Prop
abbrev CXT:=List Env->Hp->Shared->XK->Value->Shared->Prop

structure uV (P:Program)(w:World)(K:xAb)(mg:xSO)(base:Heap)(A:Around)(outer:List Env)(s:Shared)(H:Hp):Prop where
 frames:A.frames=some outer
 mod:Mod K mg base
 bs:∀ b o,base.get? b=some o->s.heap.get? b=some o/\H b=none
 bsz:base.objs.size<=s.heap.objs.size
 funs:s.heap.FunFrames base outer
 frf:∀ b∈frs outer,H b=none
 hok:HOk P w H s.heap
 bare:AllBare s.gens
inductive CE (outer:List Env)(P:Program)(w:World)(H:Hp)(s:Shared)(Q:VK)(u:Value)(s':Shared):Prop
 | mk (v:_)(H':_)(h0_:s'.os=s.os)(h1_:AllBare s'.gens)(h2_:Un (frs outer) [] H H' s.heap s'.heap)(h3_:HOk P w H' s'.heap)(h4_:cO v u)(h5_:Q v H')
def CR (CX:CXT)(outer:List Env)(P:Program)(w:World)(H:Hp)(s:Shared)(Q:VK)(E:XK)(r:Result)(s':Shared):Prop:=
 match r with
 | .ok (.ret u)=>CE outer P w H s Q u s'
 | .ok _=>False
 | .error e=>CX outer H s E e s'
structure aQ (P:Program)(w:World)(K:xAb)(mg:xSO)(base:Heap)(CX:CXT)(k:Nat)(f:Addr)(fd:FuncData)(ps:List Str)(sp:Sp):Prop where
 len:∀ vs H Q E,sp vs H Q E->vs.length=ps.length
 run:∀ (A:Around) (outer:List Env) (s:Shared) (H:Hp) (args:Args) (us:List Value) (vs:List V) (Q:VK) (E:XK),cM k A->uV P w K mg base A outer s H->BindsTo s fd args (ps.zip us)->cH vs us->sp vs H Q E ->
  codeAny (model P w) A (.call (.ref f) args) (CR CX outer P w H s Q E) s

theorem uV.make {P:Program}{w:World}{K:xAb}{mg:xSO}{base:Heap}{A:Around}{outer:List Env}{s:Shared}{H:Hp}(e:uV P w K mg base A outer s H)(C:Addr)(us:List Value)(kw:List (Str×Value)) :
  uV P w K mg base (A.under (.builtin "type.__call__" ⟨.ref C::us,kw⟩)) outer s H:=⟨by first | exact e.frames | (simpa [Around.under,Code.envs,Code.isFrame,pushEnvs] using e.frames),e.mod,e.bs,e.bsz,e.funs,e.frf,e.hok,e.bare⟩

section
variable {X:Cx}{pins:xPn}{σ:St}{H:Hp}{s s':Shared}
theorem Inv.env0 (I:Inv X pins σ H s):uV X.prog X.w X.K X.mg X.base X.A X.stack s H:=
 ⟨I.ok.frames,I.ok.mod,I.bs,xAn I.ok.bsz I.sz,I.stack,I.stkFree,I.hok,I.bare⟩
theorem Inv.after {Q:VK}{u:Value}(I:Inv X pins σ H s)(h:CE X.stack X.prog X.w H s Q u s'):EP X pins σ Q u s':=by
 obtain⟨v,H',os,bare,un,hok,r,q⟩:=h;obtain⟨hh,g,d,t,os'⟩:=s';obtain rfl:os'=s.os:=os;exact⟨v,H',I.call (h':=hh) (g':=g) (d':=d) (t':=t) (ch:=[]) un hok bare (λb z=>xAz z (by simp)),r,q⟩
end

def aPf (sp:Sp)(dvs:List V)(E:XK)(t:TA):TE:=λσ H Q=>t σ H λvs H1=>sp (vs++dvs) H1 Q E
inductive aSk (C:Addr)(m:Str)(x:V)(H1:Hp)(R:Prop):Prop
 | mk (a dx:Addr)(fs:List (Str×V))(h1:x=.ref a)(h2:H1 a=some (.ins C dx fs))(h3:fs.lookup m=none)(r:R)
def aIe (C:Addr)(m:Str)(sp:Sp)(dvs:List V)(E:XK)(ta:TE)(t:TA):TE:=λσ H Q=>ta σ H λx H1=>aSk C m x H1 (t σ H1 λvs H2=>sp (x::(vs++dvs)) H2 Q E)
def aSu (C:Addr)(sp:Sp)(dvs:List V)(E:XK)(t:TA):TE:=λσ H Q=>t σ H λvs H1=>∀ x dx,H1 x=none->H1 dx=none->dx≠x ->
 sp (.ref x::(vs++dvs)) (upd (upd H1 dx (.own x)) x (.ins C dx [])) (λv H2=>v=.non/\Q (.ref x) H2) E

def aX (K:xAb)(fd:FuncData)(ps:List Str)(ds:List Value):Prop:=
 ∀ (s:Shared) (us:List Value),K.In s.heap->(us++ds).length=ps.length->BindsTo s fd ⟨us,[]⟩ (ps.zip (us++ds))
theorem aX.all {K:xAb}{fd:FuncData}{ps:List Str}(h:∀ us:List Value,us.length=ps.length->bindArgs fd ⟨us,[]⟩=pure (ps.zip us)):aX K fd ps []:=λs us _ hl=>by
 rw[xBo] at hl ⊢;exact .of_eq (h us hl)

def fP (CX:CXT)(X:Cx)(E:XK):Prop:=∀ (pins:xPn) (σ:St) (H:Hp) (s:Shared) (e:Value) (s':Shared),Inv X pins σ H s->CX X.stack H s E e s'->X.xe e s'

section
variable {X:Cx}{CX:CXT}{k:Nat}{f C:Addr}{fd:FuncData}{ps:List Str}{sp:Sp}{dvs:List V}{ds:List Value}{E:XK}{x m:Str}{p pos apos:Pos}{e o:Expr}{es:List Expr}{ta:TE}{t:TA}

theorem aBt {pins:xPn}{σ:St}{H:Hp}{s:Shared}{Q:VK}{us:List Value}{vs:List V}(F:aQ X.prog X.w X.K X.mg X.base CX k f fd ps sp)(hr:cM k X.A)(hb:aX X.K fd ps ds)(hd:cH dvs ds)(hx:fP CX X E)
  (I:Inv X pins σ H s)(r:cH vs us)(h:sp (vs++dvs) H Q E):wpAny (model X.prog X.w) X.A (call (.ref f) us) (EP X pins σ Q) X.xe s:=by
 have r2:cH (vs++dvs) (us++ds):=r.append hd;have hl:(us++ds).length=ps.length:=by rw[<- r2.length]; exact F.len _ _ _ _ h
 refine xFn (xFi (F.run X.A X.stack s H ⟨us,[]⟩ (us++ds) (vs++dvs) Q E hr I.env0 (hb s us I.kIn hl) r2 h) λr s' hq=>?_);cases r with
 | error e=>exact hx pins σ H s e s' I hq
 | ok fl=>
  cases fl with
  | ret u=>exact I.after hq
  | next=>exact False.elim hq
  | brk=>exact False.elim hq
  | cont=>exact False.elim hq

theorem bX (F:aQ X.prog X.w X.K X.mg X.base CX k f fd ps sp)(hr:cM k X.A)(hg:Gl X x)(hm:X.mg x=some (.ref f))(hk:keepIn X.K (.ref f)=true)(hb:aX X.K fd ps ds)(hd:cH dvs ds)(hx:fP CX X E)
  (ha:PA X (e::es) t)(hdb:(x==("__debug__" : Str))=false:=by decide)(he:starEach (e::es) X.env=(false,eval e X.env)::starEach es X.env:=by rfl)(hpl:(backTo pos (starEach es X.env)).any (·.1)=false:=by rfl) :
  PE X (.Call (.Name x p) (e::es) [] pos) (aPf sp dvs E t):=by
 intro pins s σ H Q I h;refine xCo (jU I hg hm ?_ hdb);refine xDy (h₀:=X.base) I.ok.mod.kin hk (thn (ha pos pins s σ H _ I h) λus s1 ⟨vs,H1,I1,r,q⟩=>⟨I1.kIn,?_⟩) he hpl;exact aBt F hr hb hd hx I1 r q

theorem cS {pl:Sem Bool}(he:PE X o ta)(c:Cls X.K C)(hm:eE X.K C m f)(F:aQ X.prog X.w X.K X.mg X.base CX k f fd ps sp)(hr:cM k X.A)(hb:aX X.K fd ps ds)(hd:cH dvs ds)(hx:fP CX X E)(ha:PA X (e::es) t)
  (hst:starEach (e::es) X.env=(false,eval e X.env)::starEach es X.env:=by rfl)(hpl:(backTo pos (starEach es X.env)).any (·.1)=false:=by rfl)
  (ht:eval (.Call (.Attribute o m apos) (e::es) [] pos) X.env=(do
   let ov <- eval o X.env
   standAt apos.atName
   let (f,first) <- holding [ov] (getMethod ov m pl)
   callWith pos f first (backTo pos (starEach (e::es) X.env)) (backToKw pos (keywordEach [] X.env))):=by rfl) :
  PE X (.Call (.Attribute o m apos) (e::es) [] pos) (aIe C m sp dvs E ta t):=by
 intro pins s σ H Q I h;refine xEc (pl:=pl) (thn (he pins s σ H _ I h) λu s1 ⟨x,H1,I1,rx,a,dx,fs,ex,ea,l,q⟩=>?_) ht;subst ex;obtain rfl:u=Value.ref a:=rx;refine lD I1 ea c hm l ?_;refine xDy (first:=[.ref a]) (h₀:=X.base) I.ok.mod.kin hm.kp (thn (ha pos pins s1 σ H1 _ I1 q) λus s2 ⟨vs,H2,I2,r,q2⟩=>⟨I2.kIn,?_⟩) hst hpl;exact aBt (us:=.ref a::us) (vs:=.ref a::vs) F hr hb hd hx I2 (.cons rfl r) q2
theorem dM {pl:Sem Bool}(he:PE X o ta)(c:Cls X.K C)(hm:eE X.K C m f)(F:aQ X.prog X.w X.K X.mg X.base CX k f fd ps sp)(hr:cM k X.A)(hb:aX X.K fd ps ds)(hd:cH dvs ds)(hx:fP CX X E)
  (ht:eval (.Call (.Attribute o m apos) [] [] pos) X.env=(do
   let ov <- eval o X.env
   standAt apos.atName
   let (f,first) <- holding [ov] (getMethod ov m pl)
   callWith pos f first (backTo pos (starEach [] X.env)) (backToKw pos (keywordEach [] X.env))):=by rfl) :
  PE X (.Call (.Attribute o m apos) [] [] pos) (aIe C m sp dvs E ta aBd):=by
 intro pins s σ H Q I h;refine xEc (pl:=pl) (thn (he pins s σ H _ I h) λu s1 ⟨x,H1,I1,rx,a,dx,fs,ex,ea,l,q⟩=>?_) ht;subst ex;obtain rfl:u=Value.ref a:=rx;refine lD I1 ea c hm l ?_;exact callWith_K0 (first:=[.ref a]) I1.kIn hm.kp (aBt (us:=[.ref a]) (vs:=[.ref a]) F hr hb hd hx I1 (.cons rfl .nil) q)

structure Mk (K:xAb)(C f:Addr):Prop where
 makes:makesIn K C=true
 init:findIn K (.ref C) "__init__"=some (some (.ref f))
 fn:isFn K (.ref f)=true
 kp:keepIn K (.ref C)=true

theorem aJa {pins:xPn}{σ:St}{H:Hp}{s:Shared}{Q:VK}{us:List Value}{vs:List V}(M:Mk X.K C f)(F:aQ X.prog X.w X.K X.mg X.base CX k f fd ps sp)(hr:cM (k+1) X.A)(hb:aX X.K fd ps ds)(hd:cH dvs ds)
  (hx:fP CX X E)(I:Inv X pins σ H s)(r:cH vs us)
  (h:∀ x dx,H x=none->H dx=none->dx≠x->sp (.ref x::(vs++dvs)) (upd (upd H dx (.own x)) x (.ins C dx [])) (λv H2=>v=.non/\Q (.ref x) H2) E) :
  wpAny (model X.prog X.w) X.A (call (.ref C) us) (EP X pins σ Q) X.xe s:=by
 have hq:=h (s.heap.objs.size+1) s.heap.objs.size (I.hok.fresh (xGr _)) (I.hok.fresh (xAl _)) (xBi (xHn _));have I2:=Inv.made (C:=C) I;have r2:cH (V.ref (s.heap.objs.size+1)::(vs++dvs)) (Value.ref (s.heap.objs.size+1)::(us++ds)):=.cons rfl (r.append hd)
 have hl:(Value.ref (s.heap.objs.size+1)::us++ds).length=ps.length:=by
  have e:=r2.length;rw[F.len _ _ _ _ hq] at e;exact e.symm
 refine xFn (aLg (f:=f) I.kIn M.makes M.init (xHc.mp M.fn) (xFi (F.run _ X.stack _ _ ⟨Value.ref (s.heap.objs.size+1)::us,[]⟩ (Value.ref (s.heap.objs.size+1)::(us++ds)) _ _ E (hr.make C us [])
  (I2.env0.make C us []) (hb _ (Value.ref (s.heap.objs.size+1)::us) I2.kIn hl) r2 hq) λr s' hq'=>?_))
 cases r with
 | error e=>exact hx pins σ _ _ e s' I2 hq'
 | ok fl=>
  cases fl with
  | ret u=>
   obtain⟨v,H',I3,rv,ev,q3⟩:=I2.after hq';subst ev;exact⟨rv,⟨V.ref (s.heap.objs.size+1),H',I3,rfl,q3⟩⟩
  | next=>exact False.elim hq'
  | brk=>exact False.elim hq'
  | cont=>exact False.elim hq'
theorem dB (M:Mk X.K C f)(F:aQ X.prog X.w X.K X.mg X.base CX k f fd ps sp)(hr:cM (k+1) X.A)(hg:Gl X x)(hm:X.mg x=some (.ref C))(hb:aX X.K fd ps ds)(hd:cH dvs ds)(hx:fP CX X E)
  (ha:PA X (e::es) t)(hdb:(x==("__debug__" : Str))=false:=by decide)(he:starEach (e::es) X.env=(false,eval e X.env)::starEach es X.env:=by rfl)(hpl:(backTo pos (starEach es X.env)).any (·.1)=false:=by rfl) :
  PE X (.Call (.Name x p) (e::es) [] pos) (aSu C sp dvs E t):=by
 intro pins s σ H Q I h;refine xCo (jU I hg hm ?_ hdb);refine xDy (h₀:=X.base) I.ok.mod.kin M.kp (thn (ha pos pins s σ H _ I h) λus s1 ⟨vs,H1,I1,r,q⟩=>⟨I1.kIn,?_⟩) he hpl;exact aJa M F hr hb hd hx I1 r q
end

def PK (X:Cx)(kws:List Keyword)(t:TA):Prop:=
 ∀ (pos:Pos) (pins:xPn) (s:Shared) (σ:St) (H:Hp) (Q:List V->Hp->Prop),Inv X pins σ H s->t σ H Q->wpAny (model X.prog X.w) X.A (evalAll ((backToKw pos (keywordEach kws X.env)).map (·.2))) (AP X pins σ Q) X.xe s
section
variable {X:Cx}{CX:CXT}{k:Nat}{f C:Addr}{fd:FuncData}{ps ks:List Str}{sp:Sp}{E:XK}{x m:Str}{p pos apos kpos:Pos}{e o:Expr}{es:List Expr}{kws:List Keyword}{te ta:TE}{t tk:TA}{nm:Option Str}
theorem aRd:PK X [] aBd:=λ_ _ _ _ H Q I h=>wpAny_evalAll_nil ⟨[],H,I,.nil,h⟩
theorem aNn (ha:PE X e te)(hr:PK X kws t):PK X (⟨nm,e,kpos⟩::kws) (rL te t):=by
 intro pos pins s σ H Q I h;show wpAny _ _ (evalAll ((do let v <- eval e X.env; standAt pos; pure v)::(backToKw pos (keywordEach kws X.env)).map (·.2))) _ _ s;refine wpAny_evalAll_cons (xAc (thn (ha pins s σ H _ I h) λu s1 ⟨x,H1,I1,r1,q1⟩=>xAc (xGw (xAq ?_))));exact thn (hr pos pins s1 σ H1 _ I1 q1) λus s2 ⟨xs,H2,I2,r2,q2⟩=>⟨x::xs,H2,I2,.cons r1 r2,q2⟩

variable {g:List Value->List Value->List Value}{gV:List V->List V->List V}
end

structure aR (N P:List Str)(sc:Scope):Prop where
 kind:sc.kind=.function
 co:sc.isCoroutine=false
 gen:sc.isGenerator=false
 nd:N.Nodup
 pre:N.take P.length=P
 par:∀ x∈P,sc.names.lookup x=some .local\/sc.names.lookup x=some .cell
 nofree:∀ y∈sc.names,y.2≠.free
theorem xfs {N P:List Str}{sc:Scope}(a:sc.kind=.function:=by rfl)(b:sc.isCoroutine=false:=by rfl)(c:sc.isGenerator=false:=by rfl)(d:N.Nodup:=by decide +kernel)(e:N.take P.length=P:=by rfl)(f:∀ x∈P,sc.names.lookup x=some .local\/sc.names.lookup x=some .cell:=by decide +kernel)(g:∀ y∈sc.names,y.2≠.free:=by decide +kernel):aR N P sc:=⟨a,b,c,d,e,f,g⟩

theorem wH {kindOf:Str->Option NameKind}{x:Str}:∀ {binds:List (Str×Value)}{m:xSO},(∀ v,(x,v)∉binds)->bindL kindOf binds m x=m x
 | [],_,_=>rfl
 | (n,v)::r,m,h=>by
  unfold bindL;rw[wH λw hw=>h w (xBg _ hw)];split
  ·have:x≠n:=by rintro rfl; exact h v xBk
   simp[this]
  ·rfl
theorem wJ {kindOf:Str->Option NameKind}{x:Str}:∀ {binds:List (Str×Value)}{m:xSO},(∀ v,(x,v)∉binds)->bindC kindOf binds m x=m x
 | [],_,_=>rfl
 | (n,v)::r,m,h=>by
  unfold bindC;rw[wJ λw hw=>h w (xBg _ hw)];split
  ·rfl
  ·have:x≠n:=by rintro rfl; exact h v xBk
   simp[this]
theorem wI {kindOf:Str->Option NameKind}{x:Str}{v:Value}:∀ {P:List Str}{vs:List Value}{i:Nat}{m:xSO},P.Nodup->P[i]?=some x->vs[i]?=some v->kindOf x=some .local ->
  bindL kindOf (P.zip vs) m x=some v
 | [],_,_,_,_,h,_,_=>by simp at h
 | _::_,[],_,_,_,_,h,_=>by simp at h
 | p::P,w::vs,0,m,nd,h1,h2,hk=>by
  simp at h1 h2; subst h1; subst h2;show bindL kindOf ((p,w)::P.zip vs) m p=_;unfold bindL;rw[wH λv hv=>(xDb.mp nd).1 (xGd hv).1,xAu hk]
  simp
 | p::P,w::vs,i+1,m,nd,h1,h2,hk=>by
  show bindL kindOf ((p,w)::P.zip vs) m x=_;unfold bindL;exact wI (i:=i) (xDb.mp nd).2 (by simpa using h1) (by simpa using h2) hk
theorem wK {kindOf:Str->Option NameKind}{x:Str}{v:Value}:∀ {P:List Str}{vs:List Value}{i:Nat}{m:xSO},P.Nodup->P[i]?=some x->vs[i]?=some v->kindOf x≠some .local ->
  bindC kindOf (P.zip vs) m x=some v
 | [],_,_,_,_,h,_,_=>by simp at h
 | _::_,[],_,_,_,_,h,_=>by simp at h
 | p::P,w::vs,0,m,nd,h1,h2,hk=>by
  simp at h1 h2; subst h1; subst h2;show bindC kindOf ((p,w)::P.zip vs) m p=_;unfold bindC;rw[wJ λv hv=>(xDb.mp nd).1 (xGd hv).1,xAt hk]
  simp
 | p::P,w::vs,i+1,m,nd,h1,h2,hk=>by
  show bindC kindOf ((p,w)::P.zip vs) m x=_;unfold bindC;exact wK (i:=i) (xDb.mp nd).2 (by simpa using h1) (by simpa using h2) hk

def jO (N:List Str)(vs:List V):St:=vs.map some++List.replicate (N.length-vs.length) none

def lG (CX:CXT)(P:Program)(w:World)(K:xAb)(mg:xSO)(base:Heap)(N:List Str)(qual:Str)(scope:Scope)(f:Addr)(cd:Value)(A:Around)(outer:List Env)(s:Shared)(H:Hp)(E:XK):Cx where
 prog:=P
 w:=w
 K:=K
 mg:=mg
 base:=base
 A:=A.deeper (envOfC qual scope s.heap.objs.size f cd)
 N:=N
 s₀:=s
 H₀:=H
 env:=envOfC qual scope s.heap.objs.size f cd
 outer:=outer
 stack:=envOfC qual scope s.heap.objs.size f cd::outer
 ex:=[]
 calm:=true
 fn:=λ_=>true
 pn:=[]
 xe:=λe s'=>wpAny (model P w) (A.deeper (envOfC qual scope s.heap.objs.size f cd)) (leaving (envOfC qual scope s.heap.objs.size f cd) e) (λ_ s''=>CX outer H s E e s'') (λe' s''=>CX outer H s E e' s'') s'

theorem aAp {sc:Scope}{n:Nat}{x:Str}(h:sc.names.lookup x=some .cell):∃ c,(cellsFrom n sc.names []).lookup x=some c:=by
 have q:=xIp sc.names n [] (.inl h);exact xCi.mp q

theorem wD {CX:CXT}{P:Program}{w:World}{K:xAb}{mg:xSO}{base:Heap}{N ps:List Str}{qual:Str}{scope:Scope}{f:Addr}{cd:Value}{A:Around}{outer:List Env}{s s1:Shared}{H:Hp}{E:XK}{us:List Value}{vs:List V}
  (S:aR N ps scope)(hd:A.handled=none)(e0:uV P w K mg base A outer s H)(hl:vs.length=ps.length)(r:cH vs us)
  (x:InCallC s s.heap.objs.size (bindL (envOfC qual scope s.heap.objs.size f cd).kindOf (ps.zip us) λ_=>none) (cellsFrom (s.heap.objs.size+1) scope.names []) (bindC (envOfC qual scope s.heap.objs.size f cd).kindOf (ps.zip us) λ_=>none) s1) :
  Inv (lG CX P w K mg base N qual scope f cd A outer s H E) [] (jO N vs) H s1:=by
 have hpl:ps.length<=N.length:=by have:=congrArg List.length S.pre; rw[xBe] at this; omega
 obtain⟨h1,tk,rfl,hk⟩:=x.done;have noA:∀ b:Addr,b∉(lG CX P w K mg base N qual scope f cd A outer s H E).ex:=λb z=>xAz (show b∈([]:List Addr) from z) (by simp)
 refine⟨⟨e0.mod,S.kind,rfl,rfl,xAl _,λy z c h1 h2=>?_,λy hy=>?_,λy c _ h=>?_,λ_=>hd,Around.frames_deeper e0.frames,.inr ⟨rfl,rfl⟩,λb z=>xAz z (noA b),e0.bs,e0.bsz,λb _ _=>noA b,λb z=>xAz z (noA b),e0.funs,e0.frf⟩,
  rfl,e0.bare,Un.kept hk,⟨_,x.toInCall.ns,λi y v h1 h2 h3=>?_⟩,λy c h=>⟨_,x.cell y c h⟩,e0.hok.fresh (xAl _),λy c h=>?_,λp hp=>xAz (show p∈([]:xPn) from hp) (by simp),e0.hok.kept hk,?_⟩
 ·exact name_of_addr x.apart (PySem.mem_of_lookup h1) (PySem.mem_of_lookup h2)
 ·have hy:scope.names.lookup y=some .cell\/scope.names.lookup y=some .free:=hy;rcases hy with hy | hy
  ·exact aAp hy
  ·exact xAz rfl (S.nofree _ (PySem.mem_of_lookup hy))
 ·exact xEu (x.above y c (PySem.mem_of_lookup h))
 ·have hi:i<vs.length:=by
   unfold jO at h2
   by_cases hi:i<vs.length
   ·exact hi
   ·rw[xCf (by simpa using hi)] at h2;rw[xIj] at h2;split at h2 <;> cases h2
  have ha:vs[i]?=some v:=by
   unfold jO at h2;rw[xBz (by simpa using hi),xAf] at h2;cases e:vs[i]? with
   | none=>rw[e] at h2; cases h2
   | some a=>rw[e] at h2; cases h2; rfl
  obtain⟨u,hu,rv⟩:=r.get ha
  have hp:ps[i]?=some y:=by
   rw[<- S.pre,List.getElem?_take_of_lt (by omega)]; exact h1
  have ndP:ps.Nodup:=by rw[<- S.pre]; exact S.nd.sublist (xHe _ _)
  refine⟨u,rv,?_⟩;rcases S.par y (xBa hp) with k | k
  ·exact .inl ⟨k,wI ndP hp hu k⟩
  ·obtain⟨c,e⟩:=aAp (n:=s.heap.objs.size+1) k;refine .inr ⟨.inl k,c,e,?_⟩;have q:=x.cell y c e;rw[wK ndP hp hu (by show scope.names.lookup y≠_; rw[k]; decide)] at q;exact q
 ·exact e0.hok.fresh (xEu (x.above y c (PySem.mem_of_lookup h)))
 ·unfold jO;show _=N.length;rw[xAr,xAa,xEe];omega

theorem aEr {CX:CXT}{P:Program}{w:World}{K:xAb}{mg:xSO}{base:Heap}{k:Nat}{f:Addr}{name qual:Str}{params:Arguments}{body:List Stmt}{scope:Scope}{dV kV doc pm cdv ct oc:Value}{an od:Option Addr}
  {osl:xAO}{N ps:List Str}{sp:Sp}(lk:K.lookup f=some ⟨oc,od,.func (fnOf name qual params body scope dV kV doc pm an cdv ct),osl⟩) (hcd:codeIn K cdv qual=true) (S:aR N ps scope)
  (len:∀ vs H Q E,sp vs H Q E->vs.length=ps.length)
  (hbody:∀ (A:Around) (outer:List Env) (s:Shared) (H:Hp) (vs:List V) (Q:VK) (E:XK),cM k (A.deeper (envOfC qual scope s.heap.objs.size f cdv))->sp vs H Q E ->
   ∃ t,PSs (lG CX P w K mg base N qual scope f cdv A outer s H E) body t/\t { nx:=λ_ H'=>Q .non H',rt:=Q } (jO N vs) H) :
  aQ P w K mg base CX (k+1) f (fnOf name qual params body scope dV kV doc pm an cdv ct) ps sp:=by
 refine⟨len,λA outer s H args us vs Q E hr e0 hb r hsp=>?_⟩;have hl:=len _ _ _ _ hsp;have KX:K.In s.heap:=e0.mod.kin.keeps λb o e=>(e0.bs b o e).1;have lim:s.heap.NoLimit:=e0.mod.nolimit.keeps λb o e=>(e0.bs b o e).1
 have hkind:∀ y∈ps.zip us,scope.names.lookup y.1=some .local\/(scope.names.lookup y.1=some .cell/\((cellsFrom (s.heap.objs.size+1) scope.names []).lookup y.1).isSome=true):=λ⟨n,v⟩ hy=>by
  rcases S.par n (xGd hy).1 with q | q
  ·exact .inl q
  ·exact .inr ⟨q,xIp _ _ _ (.inl q)⟩
 refine xIz hr.depth (KX _ _ lk) rfl S.co S.gen rfl (codeRec_of KX hcd) (hb _ _ _ _ ?_);refine xHv S.kind hkind λenv he s1 x=>?_;subst he;refine⟨lim.keeps x.toInCall.keep,codeAny_func ?_⟩;obtain⟨t,ht,hq⟩:=hbody A outer s H vs Q E (hr.deeper _) hsp;have I:Inv (lG CX P w K mg base N qual scope f cdv A outer s H E) [] (jO N vs) H s1:=wD S hr.hd e0 hl r x;refine xCr (ht [] s1 (jO N vs) H _ I hq) (λfl s' hs=>?_) λe s' hs=>hs
 have fin:∀ {σ':St}{H':Hp}{v:V}{u:Value},Inv (lG CX P w K mg base N qual scope f cdv A outer s H E) [] σ' H' s'->cO v u->Q v H'->CE outer P w H s Q u s':=
  λ{σ' H' v u} J rv q=>⟨v,H',J.os,J.bare,J.base,J.hok,rv,q⟩
 cases fl with
 | ret u=>
  obtain⟨v,σ',H',J,rv,q⟩:=hs;exact fin J rv q
 | next=>
  obtain⟨σ',H',J,q⟩:=hs;exact fin (v:=V.non) (u:=Value.none) J rfl q
 | brk=>
  obtain⟨_,_,_,q⟩:=hs;exact False.elim q
 | cont=>
  obtain⟨_,_,_,q⟩:=hs;exact False.elim q
section
variable {X:Cx}{x:Str}{p pos:Pos}{e:Expr}{es:List Expr}{t:TA}{id T:String}{r:List V->Hp->VK->Prop}

def tCB (r:List V->Hp->VK->Prop)(t:TA):TE:=λσ H Q=>t σ H λvs H1=>r vs H1 Q
theorem cB (hc:CallR X (.builtin id) r)(hg:Gl X x)(hm:X.mg x=none)(hv:bootBuiltins x=some (.builtin id))(ha:PA X (e::es) t)(hn:x≠"__name__" := by decide)(hdb:(x==("__debug__" : Str))=false:=by decide)
  (he:starEach (e::es) X.env=(false,eval e X.env)::starEach es X.env:=by rfl)(hpl:(backTo pos (starEach es X.env)).any (·.1)=false:=by rfl):PE X (.Call (.Name x p) (e::es) [] pos) (tCB r t):=by
 intro pins s σ H Q I h;refine xCo (oN I hg hm hv ?_ hn hdb);exact PyProof.Rows.callWith_builtin1 (thn (ha pos pins s σ H _ I h) λus s1 ⟨vs,H1,I1,r1,q1⟩=>hc pins s1 σ H1 vs us Q I1 r1 q1) he hpl
theorem iE (hc:CallR X (.type T) r)(hg:Gl X x)(hm:X.mg x=none)(hv:bootBuiltins x=some (.type T))(ha:PA X (e::es) t)(hn:x≠"__name__" := by decide)(hdb:(x==("__debug__" : Str))=false:=by decide)
  (he:starEach (e::es) X.env=(false,eval e X.env)::starEach es X.env:=by rfl)(hpl:(backTo pos (starEach es X.env)).any (·.1)=false:=by rfl):PE X (.Call (.Name x p) (e::es) [] pos) (tCB r t):=by
 intro pins s σ H Q I h;refine xCo (oN I hg hm hv ?_ hn hdb);exact xEd (thn (ha pos pins s σ H _ I h) λus s1 ⟨vs,H1,I1,r1,q1⟩=>hc pins s1 σ H1 vs us Q I1 r1 q1) he hpl
end
end L2
namespace HT
open PySem PyProof.Rows



section
open PySem.SeqAt
open PySem.AutoSeq1 (wpAny_loadPart')
open PySem.MeetsSeq PySem.MeetsSeq2 PySem.MeetsSeq3

end

section
variable {prog:Program}{w:World}{A:Around}{E:xVP}{s:Shared}




end
end HT
namespace L2
open PySem PySem.Spec PyProof.Rows PySem.W



section
variable {X:Cx}{e:Expr}{te:TE}{lo hi:Option Expr}{tl th:TO}{pos p2:Pos}




end

def ixN (n:Nat)(i:Int):Option Nat:=if 0<=i then (if i<n then some i.toNat else none) else if -(n:Int)<=i then some (i+n).toNat else none
def atI {α:Type}(xs:List α)(i:Int):Option α:=(ixN xs.length i).bind λj=>xs[j]?
theorem aOj {n:Nat}{i:Int}{j:Nat}(h:ixN n i=some j):seqIndex? i n=some j/\j<n/\-(n:Int)<=i/\i<n:=by
 unfold ixN at h
 by_cases h0:0<=i
 ·rw[xAu h0] at h
  by_cases h1:i<n
  ·rw[xAu h1] at h;have e:i.toNat=j:=xBt h;exact⟨by rw[seqIndex_of h0 h1,e],by omega,by omega,h1⟩
  ·rw[xAt h1] at h; cases h
 ·rw[xAt h0] at h
  by_cases h1:-(n:Int)<=i
  ·rw[xAu h1] at h;have e:(i+n).toNat=j:=xBt h;exact⟨by rw[seqIndex_neg (by omega) h1,e],by omega,h1,by omega⟩
  ·rw[xAt h1] at h; cases h
theorem yA {α:Type}{xs:List α}{i:Int}{v:α}(h:atI xs i=some v):∃ j,seqIndex? i xs.length=some j/\xs[j]?=some v/\j<xs.length/\-(xs.length:Int)<=i/\i<xs.length:=by
 unfold atI at h;cases e:ixN xs.length i with
 | none=>rw[e] at h; cases h
 | some j=>
  rw[e] at h;obtain⟨h1,h2,h3,h4⟩:=aOj e;exact⟨j,h1,h,h2,h3,h4⟩
theorem iK {α:Type}{xs:List α}{j:Nat}{v:α}(h:xs[j]?=some v):atI xs (j:Int)=some v:=by
 have hj:j<xs.length:=(xAd.mp h).1
 have e:ixN xs.length (j:Int)=some j:=by
  unfold ixN;rw[xAu (by omega),xAu (by omega)]; simp
 unfold atI; rw[e]; exact h

def aOz (b:Expr):Prop:=∀ o i,subscripted b false o i=operate [o,i] (getItem o i)
def IxR (X:Cx)(r:R2):Prop:=
 ∀ (value slice:Expr) (pins:xPn) (s:Shared) (σ:St) (H:Hp) (x y:V) (v u:Value) (Q:VK),Inv X pins σ H s->cO x v->cO y u->r x y H Q ->
  subscripted slice false v u=operate [v,u] (getItem v u)->wpAny (model X.prog X.w) X.A (subscriptTail value slice v u) (EP X pins σ Q) X.xe s
def MtR (X:Cx)(id:String)(r:V->List V->Hp->VK->Prop):Prop:=
 ∀ (pins:xPn) (s:Shared) (σ:St) (H:Hp) (x:V) (xs:List V) (v:Value) (us:List Value) (Q:VK),Inv X pins σ H s->cO x v->cH xs us->r x xs H Q ->
  wpAny (model X.prog X.w) X.A (call (.builtin id) (v::us)) (EP X pins σ Q) X.xe s
section
variable {X:Cx}{a b:Expr}{ta tb:TE}{pos:Pos}
theorem cG {r:R2}(hr:IxR X r)(ha:PE X a ta)(hb:PE X b tb)(hs:aOz b):PE X (.Subscript a b pos) (tOp r ta tb):=by
 intro pins s σ H Q I h;exact Subscript_ (aSg ha hb I h λv u s2 x y H2 I2 rx ry q=>hr a b pins s2 σ H2 x y v u Q I2 rx ry q (hs _ _))

inductive sC (K:xAb)(x:V)(y:V)(H:Hp)(Q:VK):Prop
 | mk (p:_)(xs:_)(i:_)(v:_)(h0_:x=.ref p)(h1_:y=.int i)(h2_:SqL K H p xs)(h3_:atI xs i=some v)(h4_:Q v H)
inductive aBy (K:xAb)(x:V)(y:V)(H:Hp)(Q:VK):Prop
 | mk (p:_)(xs:_)(i:_)(v:_)(h0_:x=.ref p)(h1_:y=.int i)(h2_:SqT K H p xs)(h3_:atI xs i=some v)(h4_:Q v H)
inductive aXh (x:V)(y:V)(H:Hp)(Q:VK):Prop
 | mk (z:_)(i:_)(c:_)(h0_:x=.str z)(h1_:y=.int i)(h2_:z.length<=sizeLine)(h3_:atI z.cps.toList i=some c)(h4_:Q (.str ⟨#[c]⟩) H)
theorem dG:IxR X (sC X.K):=by
 intro value slice pins s σ H x y v u Q I rx ry h hs;obtain⟨p,xs,i,z,rfl,rfl,hq,he,q⟩:=h;cases rx;obtain⟨t,rfl⟩:=ry;obtain⟨its,r,pl,hz⟩:=I.list hq;obtain⟨j,h1,h2,h3,h4,h5⟩:=yA he;obtain⟨w,ew,rw'⟩:=r.get h2;have hl:=r.length;have hn:=qX;have fin:EP X pins σ Q w s:=⟨z,H,I,rw',q⟩
 by_cases h0:0<=i
 ·have hj:i.toNat=j:=by
   rw[seqIndex_of h0 h5] at h1;exact xBt h1
  exact item_listR pl.isList h0 (by omega) (by rw[hj]; simpa using ew) fin hs
 ·have hj:(i+(its.toArray.size:Int)).toNat=j:=by
   rw[seqIndex_neg (by omega) h4] at h1;rw[xBd,<- hl];exact xBt h1
  exact subscriptTail_builtinR (x:=w) pl.isList.typeIs slot_list_getitem.lookup
   (wpAny_getItem_list_neg (Q:=λr s'=>r=w/\EP X pins σ Q r s') pl.isList (by omega) (by rw[xBd] <;> omega) (by omega) (by rw[hj]; simpa using ew) ⟨rfl,fin⟩) hs
theorem cV:IxR X (aBy X.K):=by
 intro value slice pins s σ H x y v u Q I rx ry h hs;obtain⟨p,xs,i,z,rfl,rfl,hq,he,q⟩:=h;cases rx;obtain⟨t,rfl⟩:=ry;obtain⟨its,r,pl,hz⟩:=I.tuple hq;obtain⟨j,h1,h2,h3,h4,h5⟩:=yA he;obtain⟨w,ew,rw'⟩:=r.get h2;have hl:=r.length;have hn:=qX;have fin:EP X pins σ Q w s:=⟨z,H,I,rw',q⟩
 exact subscriptTail_builtinR (x:=w) pl.typeIs slot_tuple_getitem.lookup
  (getItem_tuple (j:=j) (Q:=λr s'=>r=w/\EP X pins σ Q r s') pl (by omega) (by omega) (by rw[xBd,<- hl]; exact h1) (by simpa using ew) ⟨rfl,fin⟩) hs
theorem aRy:IxR X aXh:=by
 intro value slice pins s σ H x y v u Q I rx ry h hs;obtain⟨z,i,c,rfl,rfl,hz,he,q⟩:=h;obtain⟨t,rfl⟩:=rx;obtain⟨t',rfl⟩:=ry;obtain⟨j,h1,h2,h3,h4,h5⟩:=yA he;have hl:z.cps.toList.length=z.length:=by simp[Str.length]
 rw[hl] at h1 h4 h5;have hn:=qX
 exact tail_any (typeIs_str s z t) slot_str_getitem.lookup (getItem_str (c:=c) (by
  have e1:decide (i < -(2^63:Int))=false:=xBb (by omega);have e2:decide (i≥2^63)=false:=xBb (by omega);rw[e1,e2,xIm]) (by rw[h1]; simpa using h2) ⟨.str ⟨#[c]⟩,H,I.tok _,⟨_,rfl⟩,q⟩) hs



def pR:V->Bool
 | .non=>true
 | .bl _=>true
 | .int _=>true
 | .str _=>true
 | _=>false
def eqV:V->V->Bool
 | .non,.non=>true
 | .bl a,.bl b=>a==b
 | .bl a,.int b=>(if a then 1 else 0)==b
 | .int a,.bl b=>a==(if b then 1 else 0)
 | .int a,.int b=>a==b
 | .str a,.str b=>a==b
 | _,_=>false
theorem aSd {A:Around}{s:Shared}{y x:V}{u v:Value}(ry:cO y u)(rx:cO x v)(fy:pR y=true)(fx:pR x=true):SeqAt.EqAt A s u v (eqV y x):=by
 cases y with
 | non=>
  cases ry;cases x with
  | non=>cases rx; exact SeqAt.EqAt.same _
  | bl b=>cases rx; exact SeqAt.EqAt.none_bool b
  | int b=>obtain⟨t,rfl⟩:=rx; exact SeqAt.EqAt.none_int b t
  | str b=>obtain⟨t,rfl⟩:=rx; exact SeqAt.EqAt.none_str b t
  | _=>exact xAz (show false=true from fx) xAv
 | bl a=>
  cases ry;cases x with
  | non=>cases rx; exact SeqAt.EqAt.bool_none a
  | bl b=>cases rx; exact SeqAt.EqAt.bool_bool a b
  | int b=>obtain⟨t,rfl⟩:=rx; exact SeqAt.EqAt.bool_int a b t
  | str b=>obtain⟨t,rfl⟩:=rx; exact SeqAt.EqAt.bool_str a b t
  | _=>exact xAz (show false=true from fx) xAv
 | int a=>
  obtain⟨t',rfl⟩:=ry;cases x with
  | non=>cases rx; exact SeqAt.EqAt.int_none a t'
  | bl b=>cases rx; exact SeqAt.EqAt.int_bool a t' b
  | int b=>obtain⟨t,rfl⟩:=rx; exact SeqAt.EqAt.int_int a t' b t
  | str b=>obtain⟨t,rfl⟩:=rx; exact SeqAt.EqAt.int_str a t' b t
  | _=>exact xAz (show false=true from fx) xAv
 | str a=>
  obtain⟨t',rfl⟩:=ry;cases x with
  | non=>cases rx; exact SeqAt.EqAt.str_none a t'
  | bl b=>cases rx; exact SeqAt.EqAt.str_bool a t' b
  | int b=>obtain⟨t,rfl⟩:=rx; exact SeqAt.EqAt.str_int a t' b t
  | str b=>obtain⟨t,rfl⟩:=rx; exact SeqAt.EqAt.str_str a t' b t
  | _=>exact xAz (show false=true from fx) xAv
 | _=>exact xAz (show false=true from fy) xAv
def eqU (x:V)(u:Value):Bool:=match u with
 | .none=>eqV .non x
 | .bool b=>eqV (.bl b) x
 | .int i _=>eqV (.int i) x
 | .str z _=>eqV (.str z) x
 | _=>false
theorem aLv {x y:V}{u:Value}(r:cO y u)(f:pR y=true):eqU x u=eqV y x:=by
 cases y with
 | non=>cases r; rfl
 | bl b=>cases r; rfl
 | int i=>obtain⟨t,rfl⟩:=r; rfl
 | str z=>obtain⟨t,rfl⟩:=r; rfl
 | _=>exact xAz (show false=true from f) xAv
theorem pY {x:V}:∀ {xs:List V}{us:List Value},cH xs us->xs.all pR=true->us.any (eqU x)=xs.any λy=>eqV y x
 | _,_,.nil,_=>rfl
 | y::xs,u::us,.cons r t,f=>by
  rw[xFw,xBh] at f;rw[xDr,xDr,aLv r f.1,pY t f.2]
theorem lZ {A:Around}{s:Shared}{x:V}{v:Value}(rx:cO x v)(fx:pR x=true):∀ {xs:List V}{us:List Value},cH xs us->xs.all pR=true->∀ u∈us,SeqAt.EqAt A s u v (eqU x u)
 | _,_,.nil,_=>λu hu=>by cases hu
 | y::xs,u::us,.cons r t,f=>λu' hu=>by
  rw[xFw,xBh] at f;rcases xAo.mp hu with rfl | hu
  ·rw[aLv r f.1]; exact aSd r rx f.1 fx
  ·exact lZ rx fx t f.2 u' hu
def inV (x:V)(xs:List V):Bool:=xs.any λy=>eqV y x
inductive rIn (K:xAb)(neg:Bool)(x:V)(y:V)(H:Hp)(Q:VK):Prop
 | mk (p:_)(xs:_)(h0_:y=.ref p)(h1_:(SqL K H p xs\/SqT K H p xs))(h2_:pR x=true)(h3_:xs.all pR=true)(h4_:Q (.bl (if neg then !inV x xs else inV x xs)) H)
theorem kE:OpR X (compareOp .In) (rIn X.K false):=by
 intro pins s σ H x y v u Q I rx ry h;obtain⟨p,xs,rfl,hq,fx,fs,q⟩:=h;cases ry;rcases hq with hq | hq
 ·obtain⟨its,r,pl,hz⟩:=I.list hq;refine SeqAt.in_listAt (eqU x) pl.isList (λw hw=>lZ rx fx r fs w (by simpa using hw)) ⟨.bl _,H,I,rfl,?_⟩;rw[show its.toArray.any (eqU x)=its.any (eqU x) by simp,pY r fs];exact q
 ·obtain⟨its,r,pl,hz⟩:=I.tuple hq;refine SeqAt.in_tupleAt (eqU x) pl (λw hw=>lZ rx fx r fs w (by simpa using hw)) ⟨.bl _,H,I,rfl,?_⟩;rw[show its.toArray.any (eqU x)=its.any (eqU x) by simp,pY r fs];exact q
theorem kZ:OpR X (compareOp .NotIn) (rIn X.K true):=by
 intro pins s σ H x y v u Q I rx ry h;obtain⟨p,xs,rfl,hq,fx,fs,q⟩:=h;cases ry;rcases hq with hq | hq
 ·obtain⟨its,r,pl,hz⟩:=I.list hq;refine SeqAt.notIn_listAt (eqU x) pl.isList (λw hw=>lZ rx fx r fs w (by simpa using hw)) ⟨.bl _,H,I,rfl,?_⟩;rw[show its.toArray.any (eqU x)=its.any (eqU x) by simp,pY r fs];exact q
 ·obtain⟨its,r,pl,hz⟩:=I.tuple hq;refine SeqAt.notIn_tupleAt (eqU x) pl (λw hw=>lZ rx fx r fs w (by simpa using hw)) ⟨.bl _,H,I,rfl,?_⟩;rw[show its.toArray.any (eqU x)=its.any (eqU x) by simp,pY r fs];exact q

inductive aMl (K:xAb)(xs:List V)(H:Hp)(Q:VK):Prop
 | mk (p:_)(ys:_)(h0_:xs=[.ref p])(h1_:(SqL K H p ys\/SqT K H p ys))(h2_:Q (.int ys.length) H)
theorem cL:CallR X (.builtin "len") (aMl X.K):=by
 intro pins s σ H xs us Q I r h;obtain⟨p,ys,rfl,hq,q⟩:=h;obtain⟨u,rfl,rx⟩:=jN r;cases rx;have hn:=qX;rcases hq with hq | hq
 ·obtain⟨its,r',pl,hz⟩:=I.list hq;have hlen:=r'.length;exact Calls.call_len_list pl.isList (by simp only[List.size_toArray] <;> omega) ⟨.int ys.length,H,I.tok _,⟨s.toks+1,by rw[xBd,hlen]⟩,q⟩
 ·obtain⟨its,r',pl,hz⟩:=I.tuple hq;have hlen:=r'.length;exact len_tuple pl (by simp only[List.size_toArray] <;> omega) ⟨.int ys.length,H,I.tok _,⟨s.toks+1,by rw[xBd,hlen]⟩,q⟩
theorem xY:CallR X (.builtin "len") (λxs H Q=>∃ z,xs=[.str z]/\z.length<=sizeLine/\Q (.int z.length) H):=by
 intro pins s σ H xs us Q I r h;obtain⟨z,rfl,hz,q⟩:=h;obtain⟨u,rfl,t,rfl⟩:=jN r;have hn:=qX;exact len_str (by omega) ⟨.int z.length,H,I.tok _,⟨_,rfl⟩,q⟩
inductive aSi (K:xAb)(xs:List V)(H:Hp)(Q:VK):Prop
 | mk (p:_)(ys:_)(h0_:xs=[.ref p])(h1_:(SqL K H p ys\/SqT K H p ys))(h2_:∀ l,H l=none->Q (.ref l) (upd H l (.lst ys)))
theorem pW:CallR X (.type "list") (aSi X.K):=by
 intro pins s σ H xs us Q I r h;obtain⟨p,ys,rfl,hq,q⟩:=h;obtain⟨u,rfl,rx⟩:=jN r;cases rx
 have fin:∀ (its:List Value),cH ys its->ys.length<=sizeLine->∀ (h':Heap) (c':Nat),(∀ b o',s.heap.get? b=some o'->h'.get? b=some o') ->
   h'.get? s.heap.objs.size=some { cls:=.type "list",dict:=none,data:=.seq its.toArray c',slots:=#[] }->EP X pins σ Q (.ref s.heap.objs.size) { s with heap:=h' }:=λits r' hz h' c' kp e=>
  ⟨.ref s.heap.objs.size,_,I.laid (t':=s.toks) kp (xAl _) (show dP X.prog X.w _ h' _ (.lst ys) from ⟨hz,its,c',r',e⟩),rfl,q _ (I.hok.fresh (xAl _))⟩
 rcases hq with hq | hq
 ·obtain⟨its,r',pl,hz⟩:=I.list hq;have hlen:=r'.length;obtain⟨o,ho,hc,n,hd⟩:=pl.isList;exact call_list_seq p (.inl rfl) ho hc hd (λh' c' kp e=>fin its r' hz h' c' kp e) (by simp only[List.size_toArray] <;> omega)
 ·obtain⟨its,r',pl,hz⟩:=I.tuple hq;have hlen:=r'.length;obtain⟨o,ho,hc,n,hd⟩:=pl;exact call_list_seq p (.inr rfl) ho hc hd (λh' c' kp e=>fin its r' hz h' c' kp e) (by simp only[List.size_toArray] <;> omega)
theorem oE:CallR X (.type "tuple") (λxs H Q=>∃ p ys,xs=[.ref p]/\((SqL X.K H p ys/\∀ l,H l=none->Q (.ref l) (upd H l (.tup ys)))\/(SqT X.K H p ys/\Q (.ref p) H))):=by
 intro pins s σ H xs us Q I r h;obtain⟨p,ys,rfl,h⟩:=h;obtain⟨u,rfl,rx⟩:=jN r;cases rx;rcases h with⟨hq,q⟩ | ⟨hq,q⟩
 ·obtain⟨its,r',pl,hz⟩:=I.list hq;have hlen:=r'.length;refine call_tuple_list pl.isList (λh' kp=>?_) (by simp only[List.size_toArray] <;> omega)
  have I1:Inv X pins σ H { s with heap:=h' }:=I.kept (t':=s.toks) kp
  have I2:Inv X pins σ (upd H h'.objs.size (.tup ys)) { s with heap:=h'.push { cls:=.type "tuple",data:=.seq its.toArray } }:=
   I1.laid (t':=s.toks) (λb o e=>xAj _ e) (xAl _) (show dP X.prog X.w _ _ _ (.tup ys) from ⟨hz,its,r',IsTup.new _ _⟩)
  exact⟨.ref h'.objs.size,_,I2,rfl,q _ (I1.hok.fresh (xAl _))⟩
 ·obtain⟨its,r',pl,hz⟩:=I.tuple hq;exact call_tuple_same pl ⟨.ref p,H,I,rfl,q⟩

def tyV (K:xAb)(T:String)(x:V)(H:Hp):Prop:=match x with
 | .str _=>T="str"
 | .int _=>T="int"
 | .ref p=>(T="list" /\ ∃ xs,SqL K H p xs)\/(T="tuple" /\ ∃ o,K.lookup p=some o/\o.cls=.type "tuple" /\ o.dict=none) \/
   (T="dict" /\ ((∃ kvs,H p=some (.dK kvs))\/∃ kvs,H p=some (.dT kvs)))\/(T="set" /\ ∃ S n,H p=some (.set S n))
 | _=>False
theorem aIc {pins:xPn}{σ:St}{H:Hp}{s:Shared}{T:String}{x:V}{v:Value}(I:Inv X pins σ H s)(r:cO x v)(ty:tyV X.K T x H) :
  s.TypeIs v T/\∀ a,v=.ref a->∃ ob,s.heap.get? a=some ob/\ob.dict=none:=by
 cases x with
 | str z=>
  obtain⟨t,rfl⟩:=r;cases (show T="str" from ty)
  exact⟨typeIs_str s z t,λ_ e=>nomatch e⟩
 | int i=>
  obtain⟨t,rfl⟩:=r;cases (show T="int" from ty)
  exact⟨typeIs_int s i t,λ_ e=>nomatch e⟩
 | ref p=>
  cases r;rcases ty with⟨rfl,xs,hq⟩ | ⟨rfl,o,hk,hc,hd⟩ | ⟨rfl,hk⟩ | ⟨rfl,S,n,hk⟩
  ·obtain⟨its,_,pl,_⟩:=I.list hq;refine⟨pl.isList.typeIs,λa e=>?_⟩;cases e;obtain⟨o,n,e,c,hd,_⟩:=pl;exact⟨o,e,hd⟩
  ·refine⟨⟨o,I.kIn p o hk,hc⟩,λa e=>?_⟩;cases e;exact⟨o,I.kIn _ o hk,hd⟩
  ·have z:∃ o,s.heap.get? p=some o/\o.ExactDict:=by
    rcases hk with⟨kvs,hk⟩ | ⟨kvs,hk⟩
    ·obtain⟨_,_,_,_,o,_,_,e,ex,_⟩:=I.hok p _ hk;exact⟨o,e,ex⟩
    ·obtain⟨_,_,_,_,o,_,_,e,ex,_⟩:=I.hok p _ hk;exact⟨o,e,ex⟩
   obtain⟨o,e,ex⟩:=z;refine⟨⟨o,e,ex.1⟩,λa e2=>?_⟩;cases e2;exact⟨o,e,ex.2.1⟩
  ·obtain⟨o,_,_,_,e,ex,_⟩:=I.hok p _ hk;refine⟨⟨o,e,ex.1⟩,λa e2=>?_⟩;cases e2;exact⟨o,e,ex.2.1⟩
 | _=>exact False.elim ty
def aVt (K:xAb)(T:String)(r:V->List V->Hp->VK->Prop)(to:TE):TE:=λσ H Q=>to σ H λx H1=>tyV K T x H1/\r x [] H1 Q
def tBM (K:xAb)(T:String)(r:V->List V->Hp->VK->Prop)(to:TE)(t:TA):TE:=λσ H Q=>to σ H λx H1=>tyV K T x H1/\t σ H1 λxs H2=>r x xs H2 Q
variable {o e:Expr}{es:List Expr}{to:TE}{t:TA}{name:Str}{apos cpos:Pos}{T id:String}{r:V->List V->Hp->VK->Prop}
theorem aRh (pa:PlainAttrs T)(slot:Slot T name id)(hty:typeOf (.builtin id)=pure (.type "method_descriptor"))(hm:MtR X id r)(ho:PE X o to)
  (hbase:attributeBase o name X.env (eval o X.env)=eval o X.env:=by rfl)(hline:(apos.endLine==cpos.line)=true:=by rfl):PE X (.Call (.Attribute o name apos) [] [] cpos) (aVt X.K T r to):=by
 intro pins s σ H Q I h;refine wpAny_Call_method0_late hbase hline (thn (ho pins s σ H _ I h) λv s1 ⟨x,H1,I1,r1,ty,q1⟩=>?_);obtain⟨h1,h2⟩:=aIc I1 r1 ty;exact⟨T,id,pa,slot,hty,h1,h2,xFy rfl (PySem.evalArgs_none (hm pins s1 σ H1 x [] v [] Q I1 r1 .nil q1))⟩
theorem lW (pa:PlainAttrs T)(slot:Slot T name id)(hty:typeOf (.builtin id)=pure (.type "method_descriptor"))(hm:MtR X id r)(ho:PE X o to)(ha:PA X (e::es) t)
  (hbase:attributeBase o name X.env (eval o X.env)=eval o X.env:=by rfl)
  (hfew:((backTo cpos (starEach (e::es) X.env)).all (λx=>!x.1)&&(backToKw cpos (keywordEach [] X.env)).all (λx=>x.1.isSome)
   && decide ((e::es).length+([]:List Keyword).length+(if ([]:List Keyword).isEmpty then 0 else 1)<30))=true:=by rfl)
  (hline:(apos.endLine==cpos.line)=true:=by rfl)(hs:starEach (e::es) X.env=(false,eval e X.env)::starEach es X.env:=by rfl)(hplain:(backTo cpos (starEach es X.env)).any (·.1)=false:=by rfl) :
  PE X (.Call (.Attribute o name apos) (e::es) [] cpos) (tBM X.K T r to t):=by
 intro pins s σ H Q I h;refine wpAny_Call_method_late hbase hfew hline rfl (thn (ho pins s σ H _ I h) λv s1 ⟨x,H1,I1,r1,ty,q1⟩=>?_);obtain⟨h1,h2⟩:=aIc I1 r1 ty;refine⟨T,id,pa,slot,hty,h1,h2,?_⟩;have hA:=ha cpos pins s1 σ H1 _ I1 q1;rw[hs] at hA ⊢;refine xFy (by show (false||(backTo cpos (starEach es X.env)).any (·.1))=false; rw[hplain] <;> rfl) (xGl ?_)
 exact thn hA λus s2 ⟨vs,H2,I2,r2,q2⟩=>hm pins s2 σ H2 x vs v us Q I2 r1 r2 q2
/- xs.append(e),list.index on a module's tuple .. are MtR facts of 06m -/
end

def MtM (X:Cx)(id:String)(r:V->List V->Hp->VK->Prop):Prop:=
 ∀ (pins:xPn) (s:Shared) (σ:St) (H:Hp) (x:V) (xs:List V) (v:Value) (us:List Value) (Q:VK),Inv X pins σ H s->cO x v->cH xs us->r x xs H Q ->
  wpAny (model X.prog X.w) X.A (call (.builtin id) (v::us)) (EP X pins σ Q) X.xe s

theorem cH.one:∀ {x:V}{us:List Value},cH [x] us->∃ u,us=[u]/\cO x u
 | _,_,.cons r .nil=>⟨_,rfl,r⟩
theorem cH.zero:∀ {us:List Value},cH [] us->us=[]
 | _,.nil=>rfl
theorem cH.reverse {xs:List V}{us:List Value}(h:cH xs us):cH xs.reverse us.reverse:=by
 induction h with
 | nil=>exact .nil
 | cons r t ih=>rw[List.reverse_cons,List.reverse_cons]; exact cH.append ih (.cons r .nil)
theorem cH.rep {xs:List V}{us:List Value}(h:cH xs us):∀ k:Nat,cH (List.replicate k xs).flatten (List.replicate k us).flatten
 | 0=>.nil
 | k+1=>by
  rw[xEi,xEi,xFs,xFs];exact cH.append h (cH.rep h k)
theorem wE (its:List Value):∀ (k:Nat) (acc:List Value),
  List.foldl (λx1 x2=>x1++x2) acc.toArray (List.replicate k its.toArray)=(acc++(List.replicate k its).flatten).toArray
 | 0,acc=>by simp
 | k+1,acc=>by
  have e:acc.toArray++its.toArray=(acc++its).toArray:=by simp
  have e2:(acc++its)++(List.replicate k its).flatten=acc++(List.replicate (k+1) its).flatten:=by
   rw[xEi,xFs,xHh]
  rw[<- e2,<- wE its k (acc++its),<- e,xEi,xGh]

section
variable {X:Cx}{pins:xPn}{σ:St}{H:Hp}{s:Shared}{l b:Addr}{xs ys zs:List V}

theorem Inv.lset {its its':List Value}{n:Nat}{f:Array Value->Array Value}{t':Nat}(I:Inv X pins σ H s)(hH:H l=some (.lst xs))
  (e:s.heap.get? l=some { cls:=.type "list",data:=.seq its.toArray n })(hf:f its.toArray=its'.toArray)(hv:cH ys its')(hz:ys.length<=sizeLine) :
  Inv X pins σ (upd H l (.lst ys)) { s with heap:=s.heap.update l (Obj.mapSeq f),toks:=t' }:=by
 have q:=PySem.IsL.update e f;rw[hf] at q;refine I.write (x:=l) (e:=l) (by rw[hH]; exact trivial) (.inl rfl) (λb' u hb hu=>(xEq s.heap (Obj.mapSeq f) (Ne.symm hb)).trans hu) ⟨_,q⟩ ?_;exact⟨hz,its',_,hv,q⟩
theorem Inv.lnew {its:List Value}{t':Nat}(I:Inv X pins σ H s)(hv:cH ys its)(hz:ys.length<=sizeLine) :
  Inv X pins σ (upd H s.heap.objs.size (.lst ys)) { s with heap:=s.heap.push { cls:=.type "list",data:=.seq its.toArray },toks:=t' }:=
 I.laid (λ_ _ q=>xAj _ q) (xAl _) ⟨hz,its,0,hv,xAw _ rfl⟩
theorem Inv.fresh (I:Inv X pins σ H s):H s.heap.objs.size=none:=I.hok.fresh (xAl _)
theorem Inv.lstM (I:Inv X pins σ H s)(hH:H l=some (.lst xs)):xs.length<=sizeLine/\∃ (its:List Value) (n:Nat),cH xs its/\xs.length=its.length/\s.heap.get? l=some { cls:=.type "list",data:=.seq its.toArray n }:=by
 obtain⟨z,its,n,r,e⟩:=I.hok l _ hH;exact⟨z,its,n,r,r.length,e⟩

theorem zR {n:Nat}(h:n<=sizeLine):Builtin.List.listTooLong n=false:=by
 unfold Builtin.List.listTooLong;exact xBb (by omega)
end

section
variable {X:Cx}

def aNm:V->List V->Hp->VK->Prop:=λx vs H Q=>∃ l xs y,x=.ref l/\vs=[y]/\H l=some (.lst xs)/\xs.length<sizeLine/\Q .non (upd H l (.lst (xs++[y])))
theorem iY:MtM X "list.append" aNm:=by
 intro pins s σ H x vs v us Q I rx rv h;obtain⟨l,xs,y,rfl,rfl,hH,hz,q⟩:=h;cases rx;obtain⟨u,rfl,ru⟩:=rv.one;obtain⟨z,its,n,r,hl,e⟩:=I.lstM hH;refine call_meets F.slot_list_append ⟨_,e,rfl⟩ F.entry_list_append (F.args_list_append_2 _ _) (PySem.list_append l its.toArray n u (by rw[xBd]; omega)) ⟨e,?_⟩;refine⟨.non,_,I.lset (its':=its++[u]) hH e (by simp) (r.append (.cons ru .nil)) ?_,rfl,q⟩;rw[xAr,xGe];omega

def aNl:V->List V->Hp->VK->Prop:=λx vs H Q=>∃ l b xs zs,x=.ref l/\vs=[.ref b]/\H l=some (.lst xs)/\H b=some (.lst zs)/\xs.length+zs.length<=sizeLine/\Q .non (upd H l (.lst (xs++zs)))
theorem nK:MtM X "list.extend" aNl:=by
 intro pins s σ H x vs v us Q I rx rv h;obtain⟨l,b,xs,zs,rfl,rfl,hH,hB,hz,q⟩:=h;cases rx;obtain⟨u,rfl,ru⟩:=rv.one;cases ru;obtain⟨z,its,n,r,hl,e⟩:=I.lstM hH;obtain⟨z2,its2,n2,r2,hl2,e2⟩:=I.lstM hB;have hsz:its.toArray.size+its2.toArray.size<=sizeLine:=by rw[xBd,xBd]; omega
 have hlong:¬ (!its.toArray.isEmpty&&Builtin.List.listTooLong (its.toArray.size+its2.toArray.size))=true:=by
  rw[zR hsz,Bool.and_false];exact xAv
 refine call_meets F.slot_list_extend ⟨_,e,rfl⟩ F.entry_list_extend (F.args_list_extend_2 _ _)
  (AutoSeq1.list_extend_list_list_0 l its.toArray n b its2.toArray n2 hlong (by rw[xBd]; omega) (by omega)) ⟨e,e2,?_⟩
 refine⟨.non,_,I.lset (its':=its++its2) hH e (by simp) (r.append r2) ?_,rfl,q⟩;rw[xAr];omega



def aJd:V->List V->Hp->VK->Prop:=λx vs H Q=>∃ l xs,x=.ref l/\vs=[]/\H l=some (.lst xs)/\Q .non (upd H l (.lst xs.reverse))
theorem aCq:MtM X "list.reverse" aJd:=by
 intro pins s σ H x vs v us Q I rx rv h;obtain⟨l,xs,rfl,rfl,hH,q⟩:=h;cases rx;have hus:=rv.zero;subst hus;obtain⟨z,its,n,r,hl,e⟩:=I.lstM hH;refine call_meets F.slot_list_reverse ⟨_,e,rfl⟩ F.entry_list_reverse (F.args_list_reverse_1 _) (AutoSeq1.list_reverse_list_0 l its.toArray n (by rw[xBd]; omega)) ⟨e,?_⟩;refine⟨.non,_,I.lset (its':=its.reverse) hH e (by simp) r.reverse ?_,rfl,q⟩;rw[xEj];omega


inductive aXj (x:V)(y:V)(H:Hp)(Q:VK):Prop
 | mk (l:_)(b:_)(xs:_)(zs:_)(h0_:x=.ref l)(h1_:y=.ref b)(h2_:H l=some (.lst xs))(h3_:H b=some (.lst zs))(h4_:xs.length+zs.length<=sizeLine)(h5_:∀ p,H p=none->Q (.ref p) (upd H p (.lst (xs++zs))))
theorem tX:OpR X (binaryOp .Add) aXj:=by
 intro pins s σ H x y v u Q I rx ry h;obtain⟨l,b,xs,zs,rfl,rfl,hH,hB,hz,q⟩:=h;cases rx;cases ry;obtain⟨z,its,n,r,hl,e⟩:=I.lstM hH;obtain⟨z2,its2,n2,r2,hl2,e2⟩:=I.lstM hB;refine PySem.P.add_list e e2 ?_ (by rw[xBd,xBd]; omega);have ea:its.toArray++its2.toArray=(its++its2).toArray:=by simp
 rw[ea];exact⟨.ref _,_,I.lnew (t':=s.toks) (r.append r2) (by rw[xAr]; omega),rfl,q _ I.fresh⟩
inductive aXe (x:V)(y:V)(H:Hp)(Q:VK):Prop
 | mk (l:_)(k:_)(xs:_)(h0_:x=.ref l)(h1_:y=.int k)(h2_:H l=some (.lst xs))(h3_:-(2^63)<=k)(h4_:k<2^63)(h5_:xs.length*k.toNat<=sizeLine)(h6_:∀ p,H p=none->Q (.ref p) (upd H p (.lst (List.replicate k.toNat xs).flatten)))
theorem aOf {α:Type}(xs:List α)(k:Nat):(List.replicate k xs).flatten.length=k*xs.length:=by
 induction k with
 | zero=>simp
 | succ k ih=>rw[xEi,xFs,xAr,ih,Nat.succ_mul,Nat.add_comm]
theorem aRi:OpR X (binaryOp .Mult) aXe:=by
 intro pins s σ H x y v u Q I rx ry h;obtain⟨l,k,xs,rfl,rfl,hH,h1,h2,hz,q⟩:=h;cases rx;obtain⟨t,rfl⟩:=ry;obtain⟨z,its,n,r,hl,e⟩:=I.lstM hH;have hlen:its.toArray.size*k.toNat<=sizeLine:=by rw[xBd,<- hl]; exact hz
 have hcap:¬ its.toArray.size*k.toNat>(2^63-1)/8:=by
  have:(sizeLine:Nat)<=(2^63-1)/8:=by decide
  omega
 have hfit:¬ (!Builtin.List.listFitsIndex k)=true:=by
  rw[fitsIndex_both h1 h2];exact xAv
 have hlong:¬ Builtin.List.listTooLong (its.toArray.size*k.toNat)=true:=by
  rw[zR hlen];exact xAv
 have hnew:List.foldl (λx1 x2=>x1++x2) #[] (List.replicate (if its.toArray.isEmpty=true then 0 else k.toNat) its.toArray)=(List.replicate k.toNat its).flatten.toArray:=by
  have f0:∀ m:Nat,List.foldl (λx1 x2=>x1++x2) #[] (List.replicate m its.toArray)=(List.replicate m its).flatten.toArray:=λm=>by
   have:=wE its m []
   rw[xHs] at this;exact this
  rw[f0];cases its with
  | nil=>simp
  | cons a r'=>rw[xAt (by simp)]
 refine wpAny_binaryOp_repeat_ref (T:="list") (U:="int") (by decide) ⟨_,e,rfl⟩ (λs'=>typeIs_int s' k t) noFill_list_mul F.fills_int_mul F.slot_int_rmul repeat_list F.slot_int_index.lookup
  (call_meets F.slot_int_rmul (typeIs_int s k t) F.entry_int_rmul (F.args_int_rmul_2 _ _) (int___rmul___int_list k t l its.toArray n)
   ⟨e,rfl,⟨_,e,rfl⟩,call_meets F.slot_list_mul ⟨_,e,rfl⟩ F.entry_list_mul (F.args_list_mul_2 _ _) (AutoListH.list___mul___list_int_3 l its.toArray n k t hfit hcap hlong) ⟨e,?_⟩⟩)
 rw[hnew];exact⟨.ref _,_,I.lnew (t':=s.toks) (r.rep k.toNat) (by rw[aOf,Nat.mul_comm]; exact hz),rfl,q _ I.fresh⟩

end

section
variable {prog:Program}{w:World}{A:Around}{E:xVP}{s:Shared}
set_option maxRecDepth 100000 in
end

section
variable {X:Cx}
end

section
variable {κ:Type} [DecidableEq κ]
def dN (kvs:List (κ×V))(k:κ):Option V:=(kvs.find? λkv=>decide (kv.1=k)).map (·.2)
def gN (kvs:List (κ×V))(k:κ)(v:V):List (κ×V):=
 if (kvs.any λkv=>decide (kv.1=k))=true then kvs.map (λkv=>if kv.1=k then (kv.1,v) else kv) else kvs++[(k,v)]

theorem eY {p:κ×V}{r:List (κ×V)}{k:κ}(e:p.1=k):dN (p::r) k=some p.2:=by simp[dN,List.find?_cons,e]
theorem fY {p:κ×V}{r:List (κ×V)}{k:κ}(e:¬ p.1=k):dN (p::r) k=dN r k:=by simp[dN,List.find?_cons,e]
theorem gY (k:κ):∀ kvs:List (κ×V),(kvs.any λkv=>decide (kv.1=k))=(dN kvs k).isSome
 | []=>rfl
 | p::r=>by
  rw[xDr]
  by_cases e:p.1=k
  ·simp only[eY e,decide_eq_true e,Bool.true_or,Option.isSome_some]
  ·rw[fY e,xBb e,Bool.false_or]; exact gY k r
theorem yE (k j:κ)(y:V):∀ kvs:List (κ×V),dN (kvs.map λkv=>if kv.1=k then (kv.1,y) else kv) j=(dN kvs j).map λx=>if j=k then y else x
 | []=>rfl
 | p::r=>by
  have ih:=yE k j y r;rw[xCa]
  by_cases h:p.1=k
  ·rw[xAu h]
   by_cases e:p.1=j
   ·rw[eY (p:=(p.1,y)) e,eY e,xGb,xAu (e.symm.trans h)]
   ·rw[fY (p:=(p.1,y)) e,fY e,ih]
  ·rw[xAt h]
   by_cases e:p.1=j
   ·rw[eY (p:=p) e,eY e,xGb,xAt (λz=>h (e.trans z))]
   ·rw[fY (p:=p) e,fY e,ih]
theorem vH (k j:κ)(y:V):∀ kvs:List (κ×V),dN kvs k=none->dN (kvs++[(k,y)]) j=if j=k then some y else dN kvs j
 | [],_=>by
  by_cases e:k=j
  ·rw[xAu e.symm]; exact eY (p:=(k,y)) e
  ·rw[xAt (λz=>e z.symm)]; exact fY (p:=(k,y)) e
 | p::r,hn=>by
  rw[xFa];have hk:¬ p.1=k:=λz=>by rw[eY z] at hn; cases hn
  rw[fY hk] at hn;have ih:=vH k j y r hn
  by_cases e:p.1=j
  ·rw[eY e,eY e,xAt (λz=>hk (e.trans z))]
  ·rw[fY e,fY e,ih]
theorem lK (kvs:List (κ×V))(k j:κ)(y:V):dN (gN kvs k y) j=if j=k then some y else dN kvs j:=by
 unfold gN
 by_cases a:(kvs.any λkv=>decide (kv.1=k))=true
 ·rw[xAu a,yE];rw[gY] at a
  by_cases e:j=k
  ·obtain⟨x,hx⟩:=xCi.mp a;rw[xAu e,e,hx,xGb,xAu rfl]
  ·rw[xAt e];cases dN kvs j with
   | none=>rfl
   | some x=>rw[xGb,xAt e]
 ·rw[xAt a];refine vH k j y kvs ?_;rw[gY] at a;cases q:dN kvs k with
  | none=>rfl
  | some x=>rw[q] at a; exact (a rfl).elim
theorem gG (kvs:List (κ×V))(k:κ)(v:V):(gN kvs k v).length<=kvs.length+1:=by
 unfold gN;split
 ·rw[xAa]; omega
 ·rw[xAr,xBm,xEo]; omega
theorem aJf {kvs:List (κ×V)}{k:κ}(v:V)(h:dN kvs k=none):gN kvs k v=kvs++[(k,v)]:=by
 unfold gN;rw[gY,h];exact xAt (by decide)

theorem lJ.isSome_eq {o:Option V}{u:Option Value}(r:lJ o u):o.isSome=u.isSome:=by
 cases o with
 | none=>cases u with
  | none=>rfl
  | some _=>exact (show False from r).elim
 | some _=>cases u with
  | none=>exact (show False from r).elim
  | some _=>rfl
theorem lJ.getD {o:Option V}{u:Option Value}{d:V}{d':Value}(r:lJ o u)(rd:cO d d'):cO (o.getD d) (u.getD d'):=by
 cases o with
 | none=>cases u with
  | none=>exact rd
  | some _=>exact (show False from r).elim
 | some _=>cases u with
  | none=>exact (show False from r).elim
  | some _=>exact r

theorem KV.val {kvs:List (κ×V)}{vs:List (κ×Value)}(r:KV kvs vs)(k:κ):lJ (dN kvs k) (valueAt vs k):=by
 unfold KV at r
 induction r with
 | nil=>exact True.intro
 | @cons p q ps qs h t ih=>
  obtain⟨h1,h2⟩:=h
  by_cases e:p.1=k
  ·have e':q.1=k:=h1.symm.trans e;have b:valueAt (q::qs) k=some q.2:=by simp[valueAt,List.find?_cons,e']
   rw[eY e,b]; exact h2
  ·have e':¬ q.1=k:=λz=>e (h1.trans z);have b:valueAt (q::qs) k=valueAt qs k:=by simp[valueAt,List.find?_cons,e']
   rw[fY e,b]; exact ih
theorem KV.any {kvs:List (κ×V)}{vs:List (κ×Value)}(r:KV kvs vs)(k:κ):(kvs.any λkv=>decide (kv.1=k))=vs.any λkv=>decide (kv.1=k):=by
 unfold KV at r
 induction r with
 | nil=>rfl
 | cons h t ih=>rw[xDr,xDr,ih,h.1]
theorem KV.repl {kvs:List (κ×V)}{vs:List (κ×Value)}(r:KV kvs vs)(k:κ){y:V}{u:Value}(ry:cO y u) :
  KV (kvs.map λkv=>if kv.1=k then (kv.1,y) else kv) (vs.map λkv=>if kv.1=k then (kv.1,u) else kv):=by
 unfold KV at r ⊢
 induction r with
 | nil=>exact .nil
 | @cons p q ps qs h t ih=>
  rw[xCa,xCa];refine .cons ?_ ih;obtain⟨h1,h2⟩:=h
  by_cases e:p.1=k
  ·rw[xAu e,xAu (h1.symm.trans e)]; exact⟨h1,ry⟩
  ·rw[xAt e,xAt (λz=>e (h1.trans z))]; exact⟨h1,h2⟩
theorem KV.put {kvs:List (κ×V)}{vs:List (κ×Value)}(r:KV kvs vs)(k:κ){y:V}{u:Value}(ry:cO y u):KV (gN kvs k y) (stored vs k u):=by
 unfold gN stored;rw[r.any k]
 by_cases e:(vs.any λkv=>decide (kv.1=k))=true
 ·rw[xAu e,xAu e]; exact r.repl k ry
 ·rw[xAt e,xAt e]; exact Paired.snoc r ⟨rfl,ry⟩
theorem KV.length {kvs:List (κ×V)}{vs:List (κ×Value)}(r:KV kvs vs):kvs.length=vs.length:=Paired.length r
end


theorem wB {P:Program}{w:World}{k:Key}{u:Value}(r:cO (kV k) u):(dS P w).is k u=true:=by
 cases k with
 | inl i=>obtain⟨t,e⟩:=(show ∃ t,u=Value.int i t from r); subst e; exact zY P w i t
 | inr x=>obtain⟨t,e⟩:=(show ∃ t,u=Value.str x t from r); subst e; exact zX P w x t
theorem wC {P:Program}{w:World}:∀ {ks:List Key}{us:List Value},cH (ks.map kV) us->ItemsAre (dS P w) ks us
 | [],_,r=>by rw[xHk] at r; cases r; exact .nil
 | k::ks,_,r=>by
  rw[xCa] at r;cases r with
  | cons h t=>exact .cons (wB h) (wC t)

abbrev KT (H:Hp):List (List Key×V)->List (List Key×Addr×Value)->Prop:=Paired λp q=>p.1=q.1/\H q.2.1=some (.tup (p.1.map kV))/\cO p.2 q.2.2
theorem KT.val {H:Hp}{kvs:List (List Key×V)}{xs:List (List Key×Addr×Value)}(r:KT H kvs xs)(k:List Key):lJ (dN kvs k) ((atKey xs k).map (·.2)):=by
 induction r with
 | nil=>exact True.intro
 | @cons p q ps qs h t ih=>
  obtain⟨h1,_,h2⟩:=h
  by_cases e:p.1=k
  ·have e':q.1=k:=h1.symm.trans e;have b:atKey (q::qs) k=some q.2:=by simp[atKey,List.find?_cons,e']
   rw[eY e,b]; exact h2
  ·have e':¬ q.1=k:=λz=>e (h1.trans z);have b:atKey (q::qs) k=atKey qs k:=by simp[atKey,List.find?_cons,e']
   rw[fY e,b]; exact ih
theorem KT.repl {H:Hp}{kvs:List (List Key×V)}{xs:List (List Key×Addr×Value)}(r:KT H kvs xs)(k:List Key){y:V}{u:Value}(ry:cO y u) :
  KT H (kvs.map λkv=>if kv.1=k then (kv.1,y) else kv) (xs.map (putAt k u)):=by
 induction r with
 | nil=>exact .nil
 | @cons p q ps qs h t ih=>
  rw[xCa,xCa];refine .cons ?_ ih;obtain⟨h1,h2,h3⟩:=h;unfold putAt
  by_cases e:p.1=k
  ·rw[xAu e,xAu (h1.symm.trans e)]; exact⟨h1,h2,ry⟩
  ·rw[xAt e,xAt (λz=>e (h1.trans z))]; exact⟨h1,h2,h3⟩
theorem KT.put {H:Hp}{kvs:List (List Key×V)}{xs:List (List Key×Addr×Value)}(r:KT H kvs xs)(k:List Key){b:Addr}{y:V}{u:Value}(hb:H b=some (.tup (k.map kV)))(ry:cO y u) :
  KT H (gN kvs k y) (storedH xs k b u):=by
 have e:(kvs.any λkv=>decide (kv.1=k))=(atKey xs k).isSome:=by
  rw[gY,(r.val k).isSome_eq,xFp]
 unfold gN storedH;rw[e]
 by_cases q:(atKey xs k).isSome=true
 ·rw[xAu q,xAu q]; exact r.repl k ry
 ·rw[xAt q,xAt q]; exact Paired.snoc r ⟨rfl,hb,ry⟩
theorem KT.keeps {H H':Hp}{kvs:List (List Key×V)}{xs:List (List Key×Addr×Value)}(r:KT H kvs xs)(ht:∀ b ys,H b=some (.tup ys)->H' b=some (.tup ys)):KT H' kvs xs:=
 Paired.mapP r λ_ _ z=>⟨z.1,ht _ _ z.2.1,z.2.2⟩

section
variable {P:Program}{w:World}{H:Hp}{h:Heap}{a:Addr}
theorem aPo {u:HO}(ok:HOk P w H h)(e:Rd H a u):dP P w H h a u:=e.ok ok
theorem rY {kvs:List (Key×V)}(ok:HOk P w H h)(e:Rd H a (.dK kvs)):kvs.length<=sizeLine/\(a==sysModules)=false/\∃ vs,KV kvs vs/\h.DictOf (dS P w) a vs:=
 show dP P w H h a (.dK kvs) from aPo ok e
theorem aQa {kvs:List (Key×V)}(ok:HOk P w H h)(e:H a=some (.dK kvs)):kvs.length<=sizeLine/\(a==sysModules)=false/\∃ vs,KV kvs vs/\h.DictOf (dS P w) a vs:=rY ok (.inl e)
theorem oO {ks:List Key}(ok:HOk P w H h)(e:H a=some (.tup (ks.map kV))):(tupleKind (dS P w)).is h ks a:=by
 obtain⟨_,its,r,o,h1,h2,n,h3⟩:=(show dP P w H h a (.tup (ks.map kV)) from ok a _ e)
 exact⟨o,its.toArray,n,h1,h2,h3,by simpa using wC r⟩
theorem uH {kvs:List (List Key×V)}(ok:HOk P w H h)(e:Rd H a (.dT kvs)):kvs.length<=sizeLine/\(a==sysModules)=false /\
  ∃ xs,KT H kvs xs/\h.DictOfH (tupleKind (dS P w)) a xs:=by
 obtain⟨z,y,xs,r,o,es,ep,h1,h2,h3,h4,h5⟩:=(show dP P w H h a (.dT kvs) from aPo ok e)
 refine⟨z,y,xs,r,o,es,ep,h1,h2,h3,h4,λx hx=>?_,h5⟩
 have all:∀ {l:List (List Key×V)}{m:List (List Key×Addr×Value)},KT H l m->∀ x∈m,(tupleKind (dS P w)).is h x.1 x.2.1:=by
  intro l m q
  induction q with
  | nil=>intro x hx; exact nomatch hx
  | @cons p q ps qs hq t ih=>
   intro x hx;rcases xAo.mp hx with e | hx
   ·subst e;exact oO ok (by rw[<- hq.1]; exact hq.2.1)
   ·exact ih x hx
 exact all r x hx
theorem aPz {kvs:List (List Key×V)}(ok:HOk P w H h)(e:H a=some (.dT kvs)):kvs.length<=sizeLine/\(a==sysModules)=false /\
  ∃ xs,KT H kvs xs/\h.DictOfH (tupleKind (dS P w)) a xs:=uH ok (.inl e)
end

def gK (H:Hp)(a:Addr)(y:V)(r:Option V):Prop:=
 (∃ kvs k,Rd H a (.dK kvs)/\y=kV k/\r=dN kvs k)\/∃ kvs k b,Rd H a (.dT kvs)/\y=.ref b/\H b=some (.tup (k.map kV))/\r=dN kvs k
def qB (H:Hp)(a:Addr)(y v:V)(H':Hp):Prop:=
 (∃ kvs k,H a=some (.dK kvs)/\y=kV k/\kvs.length<sizeLine/\H'=upd H a (.dK (gN kvs k v))) \/
 ∃ kvs k b,H a=some (.dT kvs)/\y=.ref b/\H b=some (.tup (k.map kV))/\kvs.length<sizeLine/\H'=upd H a (.dT (gN kvs k v))
theorem gK.k {H:Hp}{a:Addr}{kvs:List (Key×V)}{k:Key}(e:H a=some (.dK kvs)):gK H a (kV k) (dN kvs k):=.inl ⟨kvs,k,.inl e,rfl,rfl⟩
theorem gK.t {H:Hp}{a b:Addr}{kvs:List (List Key×V)}{k:List Key}(e:H a=some (.dT kvs))(eb:H b=some (.tup (k.map kV))):gK H a (.ref b) (dN kvs k):=.inr ⟨kvs,k,b,.inl e,rfl,eb,rfl⟩
theorem qB.k {H:Hp}{a:Addr}{kvs:List (Key×V)}{k:Key}{v:V}(e:H a=some (.dK kvs))(hl:kvs.length<sizeLine):qB H a (kV k) v (upd H a (.dK (gN kvs k v))):=.inl ⟨kvs,k,e,rfl,hl,rfl⟩
theorem qB.t {H:Hp}{a b:Addr}{kvs:List (List Key×V)}{k:List Key}{v:V}(e:H a=some (.dT kvs))(eb:H b=some (.tup (k.map kV)))(hl:kvs.length<sizeLine) :
  qB H a (.ref b) v (upd H a (.dT (gN kvs k v))):=.inr ⟨kvs,k,b,e,rfl,eb,hl,rfl⟩


section
variable {X:Cx}{pins:xPn}{σ:St}{H:Hp}{s:Shared}{a:Addr}{y v:V}{u r:Value}{o:Option V}{A:Around}{E:xVP}

theorem Inv.big (I:Inv X pins σ H s):sysModules<s.heap.objs.size:=by
 have h:mainGlobals<s.heap.objs.size:=(I.mod.glob.keeps I.bk).lt;exact Nat.lt_trans (by decide) h

theorem aHk {Q:xVP}(hu:A.units+1<cLine)(I:Inv X pins σ H s)(g:gK H a y (some v))(ry:cO y u)(h:∀ w' s',Inv X pins σ H s'->cO v w'->Q w' s') :
  wpAny (model X.prog X.w) A (getItem (.ref a) u) Q E s:=by
 rcases g with⟨kvs,k,e,ey,l⟩ | ⟨kvs,k,b,e,ey,eb,l⟩
 ·subst ey;obtain⟨z,hd,vs,rel,dd⟩:=rY I.hok e;obtain⟨w',hw,rw'⟩:=lJ.some_of (v:=v) (o:=valueAt vs k) (by rw[l]; exact rel.val k);exact wpAny_getItem_of (wB ry) dd.mapOf hw (h w' _ (I.tok _) rw')
 ·subst ey;cases (show u=Value.ref b from ry)
  obtain⟨z,hd,xs,rel,dd⟩:=uH I.hok e;obtain⟨w',hw,rw'⟩:=lJ.some_of (v:=v) (o:=(atKey xs k).map (·.2)) (by rw[l]; exact rel.val k);obtain⟨p,hp,hp2⟩:=xDv.mp hw;refine wpAny_getItem_heap (tupleKind_room_in1 hu) (oO I.hok eb) dd hp ?_;rw[hp2];exact h w' _ (I.tok _) rw'
theorem aXy {Q:xVP}(hu:A.units+1<cLine)(I:Inv X pins σ H s)(g:gK H a y o)(ry:cO y u)(h:∀ s',Inv X pins σ H s'->Q (.bool o.isSome) s') :
  wpAny (model X.prog X.w) A (compareOp .In u (.ref a)) Q E s:=by
 rcases g with⟨kvs,k,e,ey,l⟩ | ⟨kvs,k,b,e,ey,eb,l⟩
 ·subst ey;obtain⟨z,hd,vs,rel,dd⟩:=rY I.hok e;refine wpAny_in_of (wB ry) hd dd.mapOf ?_;rw[<- (rel.val k).isSome_eq,<- l];exact h _ (I.tok _)
 ·subst ey;cases (show u=Value.ref b from ry)
  obtain⟨z,hd,xs,rel,dd⟩:=uH I.hok e;refine wpAny_in_heap (tupleKind_room_in1 hu) (oO I.hok eb) hd dd ?_;have q:=(rel.val k).isSome_eq;rw[xFp] at q;rw[<- q,<- l];exact h _ (I.tok _)
theorem aOs {Q:xVP}(hu:A.units+1<cLine)(I:Inv X pins σ H s)(g:gK H a y o)(ry:cO y u)(h:∀ s',Inv X pins σ H s'->Q (.bool (!o.isSome)) s') :
  wpAny (model X.prog X.w) A (compareOp .NotIn u (.ref a)) Q E s:=by
 rcases g with⟨kvs,k,e,ey,l⟩ | ⟨kvs,k,b,e,ey,eb,l⟩
 ·subst ey;obtain⟨z,hd,vs,rel,dd⟩:=rY I.hok e;refine wpAny_notIn_of (wB ry) hd dd.mapOf ?_;rw[<- (rel.val k).isSome_eq,<- l];exact h _ (I.tok _)
 ·subst ey;cases (show u=Value.ref b from ry)
  obtain⟨z,hd,xs,rel,dd⟩:=uH I.hok e;refine wpAny_notIn_heap (tupleKind_room_in1 hu) (oO I.hok eb) hd dd ?_;have q:=(rel.val k).isSome_eq;rw[xFp] at q;rw[<- q,<- l];exact h _ (I.tok _)
theorem xW {h':Heap}{t':Nat}{ob:HO}(I:Inv X pins σ H s)(mu:Mut (H a))(hs:Heap.SameBut a s.heap h')(he:∃ q,h'.get? a=some q)(new:dP X.prog X.w (upd H a ob) h' a ob) :
  Inv X pins σ (upd H a ob) { s with heap:=h',toks:=t' }:=
 I.write (x:=a) (e:=a) mu (.inl rfl) (λb q hb z=>(hs.2 b hb).trans z) he new
theorem aSe {P:Program}{w:World}{H':Hp}{h':Heap}{kvs:List (Key×V)}{vs:List (Key×Value)}(z:kvs.length<=sizeLine)(hd:(a==sysModules)=false)(rel:KV kvs vs)(dd:h'.DictOf (dS P w) a vs) :
  dP P w H' h' a (.dK kvs):=⟨z,hd,vs,rel,dd⟩
theorem aHj {H':Hp}{Q:Unit->Shared->Prop}(hu:A.units+1<cLine)(I:Inv X pins σ H s)(g:qB H a y v H')(ry:cO y u)(rv:cO v r)(h:∀ s',Inv X pins σ H' s'->Q () s') :
  wpAny (model X.prog X.w) A (setItem (.ref a) u r) Q E s:=by
 rcases g with⟨kvs,k,e,ey,l,eH⟩ | ⟨kvs,k,b,e,ey,eb,l,eH⟩
 ·subst ey eH;obtain⟨z,hd,vs,rel,dd⟩:=aQa I.hok e;have hz:vs.length<=sizeLine:=by rw[<- rel.length]; exact z
  have hl:(gN kvs k v).length<=sizeLine:=by have:=gG kvs k v; omega
  refine wpAny_setItem_pairs (hsz:=hz) (wB ry) dd λh' dd' hs=>h _ ?_;have he:∃ q,h'.get? a=some q:=let ⟨q,_,_,hq,_⟩:=dd'; ⟨q,hq⟩;exact xW I (by rw[e]; exact True.intro) hs he (aSe hl hd (rel.put k rv) dd')
 ·subst ey eH;cases (show u=Value.ref b from ry)
  obtain⟨z,hd,xs,rel,dd⟩:=aPz I.hok e;have hz:xs.length<=sizeLine:=by rw[<- Paired.length rel]; exact z
  have hl:(gN kvs k v).length<=sizeLine:=by have:=gG kvs k v; omega
  refine wpAny_setItem_heap (hsz:=hz) (tupleKind_room_in1 hu) (oO I.hok eb) dd λh' dd' hs=>h _ ?_;obtain⟨q,es,ep,hq,h2,h3,h4,_,h5⟩:=dd';refine xW I (by rw[e]; exact True.intro) hs ⟨q,hq⟩ ⟨hl,hd,_,(rel.put k eb rv).keeps λc ys ec=>?_,q,es,ep,hq,h2,h3,h4,h5⟩;rw[aL (gQ ec e (λz=>nomatch z))];exact ec
end

section
variable {X:Cx}{pins:xPn}{σ:St}{H:Hp}{s:Shared}{a:Addr}{kvs:List (Key×V)}{k:Key}{u:Value}{A:Around}{E:xVP}
theorem aUs {Q:xVP}(I:Inv X pins σ H s)(e:Rd H a (.dK kvs))(h:∀ t s',Inv X pins σ H s'->Q (.int kvs.length t) s'):wpAny (model X.prog X.w) A (call (.builtin "len") [.ref a]) Q E s:=by
 obtain⟨z,hd,vs,rel,dd⟩:=rY I.hok e;refine call_len_dict hd dd (by rw[<- rel.length]; rw[sizeLine_eq] at z; omega) ?_;rw[<- rel.length];exact h _ _ (I.tok _)
end


def aUy (i:Expr):Prop:=∀ ov iv,subscripted i false ov iv=operate [ov,iv] (getItem ov iv)
theorem aMx {prog:Program}{w:World}{A:Around}{E:xVP}{s:Shared}{env:Env}{value slice:Expr}{pos:Pos}{T id:String}{Q:xVP}
  (hl:typeLookup (.type T) "__getitem__"=pure (some (.builtin id)))(hs:aUy slice)
  (h:wpAny (model prog w) A (eval value env) (λo s₁=>wpAny (model prog w) A (eval slice env) (λi s₂=>s₂.TypeIs o T/\wpAny (model prog w) A (getItem o i) Q E s₂) E s₁) E s) :
  wpAny (model prog w) A (eval (.Subscript value slice pos) env) Q E s:=by
 refine Subscript_ (xCr h (λo s₁ h₁=>xCr h₁ (λi s₂ h₂=>?_) λ_ _ x=>x) λ_ _ x=>x);obtain⟨hT,h₂⟩:=h₂;unfold subscriptTail;refine xAc ?_;rw[getitemInPython_of_ne hT.not_modules];refine xAc (wpAny_specialOf hT hl ?_)
 have fin:wpAny (model prog w) A (subscripted slice false o i) (λr s₃=>wpAny (model prog w) A (letTemporaryGo value o r>>=λ_=>pure r) Q E s₃) E s₂:=by
  rw[hs o i];exact wpAny_operating (xCr h₂ (λr s₃ h₃=>xAc (wpAny_letTemporaryGo (xAq h₃))) λ_ _ x=>x)
 first
  | exact xAq (xAc fin)
  | exact xAc (xAq (xAc fin))
  | exact xAc fin

theorem aAn {X:Cx}{pins:xPn}{σ:St}{H:Hp}{s:Shared}{a:Addr}{y:V}{o:Option V}(I:Inv X pins σ H s)(g:gK H a y o):s.TypeIs (.ref a) "dict":=by
 rcases g with⟨kvs,k,e,_,_⟩ | ⟨kvs,k,b,e,_,_,_⟩
 ·obtain⟨_,_,vs,_,dd⟩:=rY I.hok e;exact dd.typeIs
 ·obtain⟨_,_,xs,_,dd⟩:=uH I.hok e;exact dd.typeIs

inductive aVf (x y:V)(H:Hp)(Q:VK):Prop
 | mk (a:Addr)(v:V)(h1:x=.ref a)(h2:gK H a y (some v))(q:Q v H)
inductive aVe (x y:V)(H:Hp)(Q:Option V->Hp->Prop):Prop
 | mk (a:Addr)(o:Option V)(h1:x=.ref a)(h2:gK H a y o)(q:Q o H)
def aSx (td ty:TE):TE:=λσ H Q=>td σ H λx H1=>ty σ H1 λy H2=>aVf x y H2 Q
def aVr (ty td:TE):TE:=λσ H Q=>ty σ H λy H1=>td σ H1 λx H2=>aVe x y H2 λo H2=>Q (.bl o.isSome) H2
def aMv (ty td:TE):TE:=λσ H Q=>ty σ H λy H1=>td σ H1 λx H2=>∃ a o,x=.ref a/\gK H2 a y o/\Q (.bl (!o.isSome)) H2
inductive aSl (x y v:V)(H3:Hp)(R:Hp->Prop):Prop
 | mk (a:Addr)(H4:Hp)(h1:x=.ref a)(h2:qB H3 a y v H4)(q:R H4)
def aTq (td ty tv:TE):TS:=λD σ H=>tv σ H λv H1=>td σ H1 λx H2=>ty σ H2 λy H3=>aSl x y v H3 (D.nx σ)

section
variable {X:Cx}{o i e value:Expr}{pos pos' tpos:Pos}{td ty tv:TE}
theorem iQ (hu:X.A.units+1<cLine)(ho:PE X o td)(hi:PE X i ty)(hs:aUy i):PE X (.Subscript o i pos) (aSx td ty):=by
 intro pins s σ H Q I h;refine aMx PySem.F.slot_dict_getitem.lookup hs (thn (ho pins s σ H _ I h) λu s1 ⟨x,H1,I1,rx,q1⟩=>thn (hi pins s1 σ H1 _ I1 q1) λiv s2 ⟨y,H2,I2,ry,a,v,ex,g,q2⟩=>?_);subst ex;obtain rfl:u=Value.ref a:=rx;exact⟨aAn I2 g,aHk hu I2 g ry λw' s3 I3 rw'=>⟨v,H2,I3,rw',q2⟩⟩
theorem tW (hu:X.A.units+1<cLine)(hi:PE X i ty)(ho:PE X o td):PC X .In i o (aVr ty td):=by
 intro pins s σ H Q I h;refine thn (hi pins s σ H _ I h) λiv s1 ⟨y,H1,I1,ry,q1⟩=>thn (ho pins s1 σ H1 _ I1 q1) λu s2 ⟨x,H2,I2,rx,a,ov,ex,g,q2⟩=>?_;subst ex;obtain rfl:u=Value.ref a:=rx;exact aXy hu I2 g ry λs3 I3=>⟨.bl ov.isSome,H2,I3,rfl,q2⟩
theorem qQ (hu:X.A.units+1<cLine)(hi:PE X i ty)(ho:PE X o td):PC X .NotIn i o (aMv ty td):=by
 intro pins s σ H Q I h;refine thn (hi pins s σ H _ I h) λiv s1 ⟨y,H1,I1,ry,q1⟩=>thn (ho pins s1 σ H1 _ I1 q1) λu s2 ⟨x,H2,I2,rx,a,ov,ex,g,q2⟩=>?_;subst ex;obtain rfl:u=Value.ref a:=rx;exact aOs hu I2 g ry λs3 I3=>⟨.bl (!ov.isSome),H2,I3,rfl,q2⟩
theorem jR (hu:X.A.units+1<cLine)(ho:PE X o td)(hi:PE X i ty)(hv:PE X value tv)(hs:swapsWith value (some (.Subscript o i pos')) pos.line X.env=pure false) :
  PS X (.Assign [.Subscript o i pos'] value pos) (aTq td ty tv):=by
 intro pins s σ H D I h;refine wpAny_Assign_Subscript (thn (hv pins s σ H _ I h) λr s1 ⟨v,H1,I1,rv,q1⟩=>thn (ho pins s1 σ H1 _ I1 q1) λu s2 ⟨x,H2,I2,rx,q2⟩=>thn (hi pins s2 σ H2 _ I2 q2) λiv s3 ⟨y,H3,I3,ry,a,H4,ex,g,q3⟩=>?_) hs;subst ex;obtain rfl:u=Value.ref a:=rx;exact aHj hu I3 g ry rv λs4 I4=>⟨σ,H4,I4,q3⟩
end


theorem aLz {P:Program}{w:World}{H:Hp}(h:Heap)(hb:sysModules<h.objs.size):dP P w H (h.push { cls:=.type "dict",data:=.dict #[] }) h.objs.size (.dK []):=
 ⟨xBr _,xCs.mpr (Ne.symm (xBi hb)),[],.nil,Heap.DictOf.new h⟩
theorem aAk {P:Program}{w:World}{H:Hp}(h:Heap)(hb:sysModules<h.objs.size):dP P w H (h.push { cls:=.type "dict",data:=.dict #[] }) h.objs.size (.dT []):=
 ⟨xBr _,xCs.mpr (Ne.symm (xBi hb)),[],.nil,_,#[],0,xAw _ rfl,⟨rfl,rfl,rfl⟩,rfl,rfl,List.nodup_nil⟩
def aQl:TE:=λ_ H Q=>∀ p,H p=none->Q (.ref p) (upd H p (.dK []))
def aQk:TE:=λ_ H Q=>∀ p,H p=none->Q (.ref p) (upd H p (.dT []))
section
variable {X:Cx}{pos:Pos}
theorem lV:PE X (.Dict [] [] pos) aQl:=λpins s σ H Q I h=>
 wpAny_Dict_empty ⟨.ref s.heap.objs.size,_,I.laid (a:=s.heap.objs.size) (o:=.dK []) (t':=s.toks) (λ_ _ q=>xAj _ q) (xAl _) (aLz s.heap I.big),rfl,h _ (I.hok.fresh (xAl _))⟩
theorem zJ:PE X (.Dict [] [] pos) aQk:=λpins s σ H Q I h=>
 wpAny_Dict_empty ⟨.ref s.heap.objs.size,_,I.laid (a:=s.heap.objs.size) (o:=.dT []) (t':=s.toks) (λ_ _ q=>xAj _ q) (xAl _) (aAk s.heap I.big),rfl,h _ (I.hok.fresh (xAl _))⟩
end




structure M1 (X:Cx)(o:Expr)(m:Str)(apos:Pos)(e:Expr)(cpos:Pos):Prop where
 base:attributeBase o m X.env (eval o X.env)=eval o X.env
 few:((backTo cpos (starEach [e] X.env)).all (λx=>!x.1)&&(backToKw cpos (keywordEach [] X.env)).all (λx=>x.1.isSome)
  && decide (([e]:List Expr).length+([]:List Keyword).length+(if ([]:List Keyword).isEmpty then 0 else 1)<30))=true
 line:(apos.endLine==cpos.line)=true
 trees:backTo cpos (starEach [e] X.env)=[(false,eval e X.env)]

def IsD (H:Hp)(a:Addr):Prop:=(∃ kvs,Rd H a (.dK kvs))\/∃ kvs,Rd H a (.dT kvs)
theorem aRz {X:Cx}{pins:xPn}{σ:St}{H:Hp}{s:Shared}{a:Addr}(I:Inv X pins σ H s)(d:IsD H a) :
  s.TypeIs (.ref a) "dict" /\ (∀ b,Value.ref a=.ref b->∃ ob,s.heap.get? b=some ob/\ob.dict=none)/\(a==sysModules)=false:=by
 rcases d with⟨kvs,e⟩ | ⟨kvs,e⟩
 ·obtain⟨_,hd,vs,_,dd⟩:=rY I.hok e;refine⟨dd.typeIs,λb q=>?_,hd⟩;cases q;obtain⟨ob,_,_,h1,h2,_⟩:=dd;exact⟨ob,h1,h2.2.1⟩
 ·obtain⟨_,hd,xs,_,dd⟩:=uH I.hok e;refine⟨dd.typeIs,λb q=>?_,hd⟩;cases q;obtain⟨ob,_,_,h1,h2,_⟩:=dd;exact⟨ob,h1,h2.2.1⟩

section
variable {X:Cx}{pins:xPn}{σ:St}{H:Hp}{s:Shared}{a:Addr}{y d:V}{u r:Value}{o:Option V}{A:Around}{E:xVP}
theorem aSf {Q:xVP}(hu:A.units+1<cLine)(I:Inv X pins σ H s)(g:gK H a y o)(ry:cO y u)(h:∀ w' s',Inv X pins σ H s'->cO (o.getD .non) w'->Q w' s') :
  wpAny (model X.prog X.w) A (call (.builtin "dict.get") [.ref a,u]) Q E s:=by
 rcases g with⟨kvs,k,e,ey,l⟩ | ⟨kvs,k,b,e,ey,eb,l⟩
 ·subst ey;obtain⟨z,hd,vs,rel,dd⟩:=rY I.hok e;refine call_meetsIn xGa dd.typeIs xIs (xIh _ _) (meets_dict_get (dS X.prog X.w) a (wB ry) hd) ⟨_,dd.mapOf,h _ _ (I.tok _) ?_⟩;rw[l];exact (rel.val k).getD rfl
 ·subst ey;cases (show u=Value.ref b from ry)
  obtain⟨z,hd,xs,rel,dd⟩:=uH I.hok e;refine call_meetsIn xGa dd.typeIs xIs (xIh _ _) (meetsH_dict_get (tupleKind (dS X.prog X.w)) a b hd) ⟨tupleKind_room_in1 hu,k,xs,oO I.hok eb,dd,h _ _ (I.tok _) ?_⟩;rw[l];exact (rel.val k).getD rfl
end

def aQm (td ty:TE):TE:=λσ H Q=>td σ H λx H1=>∃ a,x=.ref a/\IsD H1 a/\ty σ H1 λy H2=>∃ o,gK H2 a y o/\Q (o.getD .non) H2
section
variable {X:Cx}{o e f:Expr}{apos cpos:Pos}{td ty tx:TE}
theorem tV (hu:X.A.units+1<cLine)(ho:PE X o td)(he:PE X e ty)(m:M1 X o "get" apos e cpos):PE X (.Call (.Attribute o "get" apos) [e] [] cpos) (aQm td ty):=by
 intro pins s σ H Q I h;refine wpAny_Call_method m.base m.few m.line PySem.F.plainAttrs_dict xGa PySem.F.type_dict_get (thn (ho pins s σ H _ I h) λu s1 ⟨x,H1,I1,rx,a,ex,d,q1⟩=>?_);subst ex;obtain rfl:u=Value.ref a:=rx;obtain⟨t1,t2,_⟩:=aRz I1 d;refine⟨t1,t2,?_⟩;rw[m.trees];refine xFy rfl (xGl (xEa (thn (he pins s1 σ H1 _ I1 q1) λiv s2 ⟨y,H2,I2,ry,ov,g,q2⟩=>xHj ?_)));exact aSf hu I2 g ry λw' s3 I3 rw'=>⟨_,H2,I3,rw',q2⟩
end

section
variable {X:Cx}{pins:xPn}{σ:St}{H:Hp}{s:Shared}{a:Addr}{kvs:List (Key×V)}{A:Around}{E:xVP}
end


section
variable {X:Cx}{pins:xPn}{σ:St}{H:Hp}{s:Shared}{a:Addr}{y:V}{u:Value}{A:Around}{E:xVP}
end
end L2
namespace Att
open PySem PySem.W PySem.Calls PyProof.Rows

theorem sD {P:Params}{h:Heap}:∀ (ns:List Int) (vs:List Value),WellAll P h vs (ns.map WData.int)->IntsAre vs ns:=by
 intro ns
 induction ns with
 | nil=>
  intro vs w;rw[List.map_nil] at w;cases w;exact .nil
 | cons n ns ih=>
  intro vs w;rw[List.map_cons] at w;cases w with
  | cons a b=>
   cases a;exact .cons _ _ (ih _ b)

theorem aFn {l:OpenLaw}{n:Nat}(hn:l.most=some n){P:Params}{h:Heap}{args:List WData}{vals:List Value}
  (hpre:l.row.toRowW.claim.pre args=true)(hwl:WellAll P h vals args) :
  ∃ a vs ns,vals=[Value.ref a]/\args=[WData.list (ns.map WData.int)]/\h.get? a=some { cls:=.type "list",data:=.seq vs.toArray }/\IntsAre vs ns/\ns.length<=n:=by
 have hsh:WShape.hasAll [] args [.list .int]=true:=(pre_splitW hpre).1;have hc:l.pre.holds [] { args:=args }=true:=(pre_splitW hpre).2;obtain⟨d,r,rfl,h1,h2⟩:=hasAllW_cons hsh;obtain rfl:=hasAllW_nil h2;obtain⟨xs,rfl,h3⟩:=hasW_list h1;obtain⟨ns,rfl⟩:=items_int h3
 have hlen:ns.length<=n:=by
  unfold OpenLaw.pre at hc
  have h4:(WTm.not (.lt (.lit (.int (n:Int))) (.len (.arg 0)))).holds [] { args:=[.list (ns.map .int)] }=true:=by
   have h4:=(holds_andW hc).1;rw[hn] at h4;exact h4
  have h5:=condW_of h4 (w_not (w_lt w_lit (w_len_list (w_arg rfl))));rw[List.length_map] at h5;refine Nat.le_of_not_lt λq=>?_;have q':(n:Int)<((ns.length:Nat):Int):=by omega
  first
   | (rw[decide_eq_true q'] at h5; exact absurd h5 (by decide))
   | (simp at h5; omega)
 cases hwl with
 | cons w1 w2=>
  cases w2;cases w1 with
  | list ho hall=>exact⟨_,_,ns,rfl,rfl,ho,sD ns _ hall,hlen⟩

theorem aFr (l:OpenLaw)(args:List WData):l.row.toRowW.claim.post args (.bool true) args=true:=
 postW_of (r:=l.row.toRowW) (X:=(true==true))
  (show WShape.has [] (.bool true) .bool=true by first | rfl | decide | simp[WShape.has,WShape.arms,WShape.armsAll])
  (show (WTm.eq .res (.lit (.bool true))).value [] { args:=args,res:=some (.bool true),after:=args }=some (.bool (true==true)) from w_eq_bool (w_res rfl) w_lit) rfl


theorem attach_call {l:OpenLaw}{n:Nat}{q:Program}{loose:List Str}{XP:(Str->Option Value)->Heap->Prop}{YP:World->Heap->Prop}{d:DefRec}
  (hn:l.most=some n)(hdf:d.params.defaults=[])
  (call:∀ (w:World) (s₀ s₁:Shared) (mg mb:Str->Option Value) (fa:Addr) (o:Obj) (pm cd doc:Value) (a:Addr) (vs:List Value) (ns:List Int),
   Ground q loose [] XP w s₀ mg mb s₁.heap->YP w s₁.heap ->
   s₁.heap.get? fa=some o->o.data=.func (docDef d.name d.params d.body d.scope pm cd doc)->s₁.heap.CodeRec cd d.name->mg d.name=some (.ref fa) ->
   s₁.heap.get? a=some { cls:=.type "list",data:=.seq vs.toArray }->IntsAre vs ns->ns.length<=n->s₁.gens=#[] ->
   codeAny (model l.prog w) callerA (.call (.ref fa) ⟨[.ref a],[]⟩) (λr s'=>r=.ok (.ret (.bool true))/\OldK s₁.heap s'.heap/\s'.os=s₁.os/\AllBare s'.gens) s₁) :
  WalkO q loose XP YP l.row.toRowW d [] (λf vs=>PySem.call f vs):=by
 intro w s₀ s₁ mg mb G Y fa o pm cd doc dV kV ho hd hcd hD hmg hg args vals as hpre hlay hrd hwl hlo;obtain rfl:dV=.none:=Dflts.none hD hdf;obtain rfl:kV=.none:=Dflts.noKw hD;obtain⟨a,vs,ns,rfl,rfl,hobj,hints,hlen⟩:=aFn hn hpre hwl;refine enter_call (codeAny_mono (call w s₀ s₁ mg mb fa o pm cd doc a vs ns G Y ho (fd_plain hd) hcd hmg hobj hints hlen hg) λr s' hq=>?_);obtain⟨rfl,h2,h3,h4⟩:=hq;exact⟨.inl ⟨.bool true,.bool true,[],rfl,λ_=>rfl,.bool true,aFr l _,λ_=>⟨List.Pairwise.nil,λ_ hm=>(nomatch hm)⟩⟩,h2,h3,h4⟩


section
variable {prog:Program}{w:World}{A:Around}{E:xVP}{s:Shared}{K:Frag}






end
end Att
namespace L2
open PySem PySem.Spec PyProof.Rows PySem.W

theorem vG:∀ {vs:List Value}{ns:List Int},IntsAre vs ns->cH (ns.map V.int) vs
 | _,_,.nil=>.nil
 | _,_,.cons n t h=>.cons ⟨t,rfl⟩ (vG h)





def aD (s:Stmt)(j:Nat):Stmt:=match s with
 | .ClassDef _ _ _ body _ _ _ _ _ _ _=>body.getD j (.Pass ⟨0,0,0,0⟩)
 | _=>.Pass ⟨0,0,0,0⟩
def aH (s:Stmt):Arguments:=match s with
 | .FunctionDef _ a _ _ _ _ _ _ _ _=>a
 | _=>{ posonlyargs:=[],args:=[],vararg:=none,kwonlyargs:=[],kw_defaults:=[],kwarg:=none,defaults:=[] }
def aG (s:Stmt):List Stmt:=match s with
 | .FunctionDef _ _ b _ _ _ _ _ _ _=>b
 | _=>[]
def aB (s:Stmt):Scope:=match s with
 | .FunctionDef _ _ _ _ _ _ sc _ _ _=>sc
 | _=>{ kind:=.function,names:=[],isGenerator:=false,isCoroutine:=false }

abbrev CX0:CXT:=λ_ _ _ _ _ _=>False
abbrev E0:XK:=λ_ _ _=>False
theorem bZ {X:Cx}:fP CX0 X E0:=λ_ _ _ _ _ _ _ h=>h.elim

structure Fun (K:xAb)(x qual:Str)(st:Stmt)(f:Addr)(fd:FuncData):Prop where
 ex:∃ (oc:Value) (od:Option Addr) (kV doc pm:Value) (an:Option Addr) (cdv ct:Value) (osl:xAO),
  fd=fnOf x qual (aH st) (aG st) (aB st) .none kV doc pm an cdv ct/\K.lookup f=some ⟨oc,od,.func fd,osl⟩/\codeIn K cdv qual=true
 kp:keepIn K (.ref f)=true
section
variable {P:Program}{w:World}{K:xAb}{mg:xSO}{base:Heap}
theorem Fun.ok {x qual:Str}{st:Stmt}{f:Addr}{fd:FuncData}{N ps:List Str}{k:Nat}{sp:Sp}(F:Fun K x qual st f fd)(S:aR N ps (aB st))(len:∀ vs H Q E,sp vs H Q E->vs.length=ps.length)
  (hbody:∀ (cdv:Value) (A:Around) (outer:List Env) (s:Shared) (H:Hp) (vs:List V) (Q:VK) (E:XK),cM k (A.deeper (envOfC qual (aB st) s.heap.objs.size f cdv))->sp vs H Q E ->
   ∃ t,PSs (lG CX0 P w K mg base N qual (aB st) f cdv A outer s H E).nox (aG st) t/\t { nx:=λ_ H'=>Q .non H',rt:=Q } (jO N vs) H):aQ P w K mg base CX0 (k+1) f fd ps sp:=by
 obtain⟨oc,od,kV,doc,pm,an,cdv,ct,osl,rfl,lk,hcd⟩:=F.ex;refine aEr lk hcd S len λA outer s H vs Q E hr hsp=>?_;obtain⟨t,h,q⟩:=hbody cdv A outer s H vs Q E hr hsp;exact⟨t,h.nox,q⟩
theorem Fun.binds {x qual:Str}{st:Stmt}{f:Addr}{fd:FuncData}{ps:List Str}(F:Fun K x qual st f fd)
  (h:∀ (kV doc pm:Value) (an:Option Addr) (cdv ct:Value) (us:List Value),us.length=ps.length->bindArgs (fnOf x qual (aH st) (aG st) (aB st) .none kV doc pm an cdv ct) ⟨us,[]⟩=pure (ps.zip us)):aX K fd ps []:=by
 obtain⟨oc,od,kV,doc,pm,an,cdv,ct,osl,rfl,lk,hcd⟩:=F.ex;exact .all (h kV doc pm an cdv ct)
theorem fun_mk {x qual:Str}{st:Stmt}{f:Addr}{oc:Value}{od an:Option Addr}{osl:xAO}{kV doc pm cdv ct:Value}(l:K.lookup f=some ⟨oc,od,.func (fnOf x qual (aH st) (aG st) (aB st) .none kV doc pm an cdv ct),osl⟩)
  (c:codeIn K cdv qual=true)(k:keepIn K (.ref f)=true):Fun K x qual st f (fnOf x qual (aH st) (aG st) (aB st) .none kV doc pm an cdv ct):=⟨⟨oc,od,kV,doc,pm,an,cdv,ct,osl,rfl,l,c⟩,k⟩
end
theorem jH {A:Around}{k:Nat}(hr:cM k A):A.units+1<cLine:=xCc (Nat.add_le_add_left (by decide:1<=64) _) hr.units
theorem bO {n:Nat}(h:n<=1000):n<sizeLine:=xCc h (by decide)

section
variable {X:Cx}
theorem pv (i:Nat){x:Str}{pos:Pos}(hN:X.N[i]?=some x:=by rfl)(hv:Vis X.env.scope x:=by first | exact xAy rfl | exact xEt (xAy rfl) | exact xEt (xEt rfl))(hd:(x==("__debug__" : Str))=false:=by decide)
  (hcd:(x==("__classdict__" : Str))=false:=by decide):PE X (.Name x pos) (aFi i):=aJi hN hv hd hcd
end

theorem fX {A B:Prop}(h:B):if false=true then A else B:=by
 rw[xAt xAv];exact h
theorem gX {A B:Prop}(h:A):if true=true then A else B:=by
 rw[xAu rfl];exact h
theorem eI {c A B:Prop} [Decidable c] (h1:c->A)(h2:¬ c->B):if c then A else B:=by
 by_cases h:c
 ·rw[xAu h];exact h1 h
 ·rw[xAt h];exact h2 h

def aP (H H':Hp):Prop:=∀ b o,H b=some o->H' b=some o
theorem aP.refl (H:Hp):aP H H:=λ_ _ h=>h
theorem aP.trans {H H1 H2:Hp}(a:aP H H1)(b:aP H1 H2):aP H H2:=λc o h=>b c o (a c o h)
theorem aP.free {H H':Hp}(e:aP H H'){l:Addr}(h:H' l=Option.none):H l=Option.none:=by
 cases q:H l with
 | none=>rfl
 | some o=>
  rw[e l o q] at h;cases h
theorem aP.seq {K:xAb}{H H':Hp}{a:Addr}{xs:List V}(e:aP H H')(h:SqL K H a xs):SqL K H' a xs:=by
 rcases h with (h | ⟨o,h⟩) | h
 ·exact .inl (.inl (e _ _ h))
 ·exact .inl (.inr ⟨o,e _ _ h⟩)
 ·exact .inr h

section
variable {X:Cx}
inductive aYd (xs:List V)(H:Hp)(Q:VK):Prop
 | mk (a:_)(kvs:_)(h0_:xs=[V.ref a])(h1_:H a=some (.dK kvs))(h2_:Q (.int kvs.length) H)
theorem aHn:CallR X (.builtin "len") aYd:=by
 intro pins s σ H xs us Q I r h;obtain⟨a,kvs,rfl,ha,q⟩:=h;obtain⟨u,rfl,ru⟩:=jN r;cases ru;exact aUs I (.inl ha) λt s' I'=>⟨.int kvs.length,H,I',⟨t,rfl⟩,q⟩
end
section
variable {κ:Type} [DecidableEq κ]
end

def aEe (c:Nat):V:=.str ⟨#[c]⟩
def Its (x:Str):It:=⟨λi _=>i<x.cps.size,λi H v H'=>H'=H/\∃ c,x.cps[i]?=some c/\v=aEe c,λi _=>x.cps.size<=i⟩
theorem yF {P:Program}{w:World}{K:xAb}{tg:Expr}(n:String)(it:Addr)(x:Str)(t:Tok)
  (hn:n="str_ascii_iterator" \/ n="str_iterator"):aAr P w K tg (Its x) [it] it (λi h=>h.IsStrIter it n x t i) where
 mem:=by simp
 obj:=λi h st b hb=>by
  have e:b=it:=by simpa using hb
  subst e;obtain⟨o,e,c,d⟩:=st;exact⟨o,e,λv z=>by rw[d] at z; cases z⟩
 keep:=λi h h' st k=>by
  obtain⟨o,e,c,d⟩:=st;exact⟨o,k it (by simp) o e,c,d⟩
 item:=by
  intro X hP hw hK hc i pins s σ H E I hf st hg;subst hP hw hK;obtain⟨f0,f1,f2,f3,f4,f5⟩:=hf it (by simp);have hg':i<x.cps.size:=hg;have hx:x.cps[i]?=some x.cps[i]:=by simp[hg']
  have fin:∀ h',h'.IsStrIter it n x t (i+1)->Heap.SameBut it s.heap h'->∃ u,some (Value.str ⟨#[x.cps[i]]⟩ s.toks)=some u /\
   wpAny (model X.prog X.w) X.A (letOwnedTupleGo tg (.ref it) u) (λ_ s2=>∃ x_1 H',Inv X pins σ H' s2/\cO x_1 u/\(Its x).yld i H x_1 H'/\s2.heap.IsStrIter it n x t (i+1)/\∀ b∈[it],H' b=none) E { s with heap:=h',toks:=s.toks+1 }:=λh' st' sb=>by
   have I1:Inv X pins σ H { s with heap:=h',toks:=s.toks+1 }:=I.turned (λb o hb e=>(sb.2 b hb).trans e) f0 f1 f3 f4 f5;obtain⟨o,e,c,d⟩:=id st';refine⟨_,rfl,aEq (s:={ s with heap:=h',toks:=s.toks+1 }) e c d (by rcases hn with rfl | rfl <;> decide) ⟨aEe x.cps[i],H,I1,⟨_,rfl⟩,⟨rfl,_,hx,rfl⟩,st',λb hb=>(hf b hb).1⟩⟩
  rcases hn with rfl | rfl
  ·exact wpAny_pyNext_ascii_item st hx fin
  ·exact wpAny_pyNext_wide_item st hx fin
 done:=by
  intro X hP hw hK hc i pins s σ H E I hf st hg;subst hP hw hK;obtain⟨f0,f1,f2,f3,f4,f5⟩:=hf it (by simp);have hg':x.cps.size<=i:=hg;have hx:x.cps[i]?=none:=by simp[hg']
  rcases hn with rfl | rfl
  ·exact wpAny_pyNext_ascii_end (I.ok.hd hc) st hx λh' eb=>⟨rfl,I.turned (t':=s.toks) (λb o hb e=>eb b o hb e) f0 f1 f3 f4 f5⟩
  ·exact wpAny_pyNext_wide_end (I.ok.hd hc) st hx λh' eb=>⟨rfl,I.turned (t':=s.toks) (λb o hb e=>eb b o hb e) f0 f1 f3 f4 f5⟩
 self:=λ_ _ _ _ _ st h=>by
  rcases hn with rfl | rfl
  ·exact wpAny_pyIter_striter_ascii st h
  ·exact wpAny_pyIter_striter_wide st h
section
variable {X:Cx}{tg:Expr}
def aXt (tl:TE):TI:=λσ H R=>tl σ H λv H1=>∃ x,v=.str x/\R (Its x) H1
theorem aRe {l:Expr}{tl:TE}(hl:PE X l tl):PI X tg l (aXt tl):=by
 intro pins s σ H R I h;refine thn (hl pins s σ H _ I h) λv s1 ⟨x,H1,I1,r1,q1⟩=>?_;obtain⟨z,e,q⟩:=q1;subst e;obtain⟨t,rfl⟩:=r1
 have fp:∀ b∈[s1.heap.objs.size],mY X pins H1 b:=λb hb=>by
  have e:b=s1.heap.objs.size:=by simpa using hb
  subst e;exact I1.fpOk (xAl _) (I1.hok.fresh (xAl _))
 cases ha:z.cps.all (·<128)
 ·exact wpAny_pyIter_wide ha ⟨s1.heap.objs.size,[s1.heap.objs.size],_,_,H1,rfl,I1.kept (t':=s1.toks) λb o e=>xAj _ e,yF "str_iterator" _ z t (.inr rfl),⟨_,xAw _ rfl,rfl,rfl⟩,fp,q⟩
 ·exact wpAny_pyIter_ascii ha ⟨s1.heap.objs.size,[s1.heap.objs.size],_,_,H1,rfl,I1.kept (t':=s1.toks) λb o e=>xAj _ e,yF "str_ascii_iterator" _ z t (.inl rfl),⟨_,xAw _ rfl,rfl,rfl⟩,fp,q⟩
end

theorem aHl {prog:Program}{w:World}{A:Around}{R:Result->Shared->Prop}{s:Shared}{elt target iter:Expr}{ifs:List Expr}{scope:Scope}{pos:Pos}{it acc:Value}{env:Env}(I:Nat->Shared->Prop)
  (turn:∀ n s,I n s->wpAny (model prog w) A (pyNext it) (λr s₁=>match r with
   | none=>R (.ok .next) s₁
   | some v=>wpAny (model prog w) A (letOwnedTupleGo target it v) (λ_ s₁'=>wpAny (model prog w) A (assign target env v) (λ_ s₂=>
     wpAny (model prog w) A (forIn ifs true λc r=>if r=true then do let ok <- isTrue c env (eval c env); pure (ForInStep.yield ok) else pure (ForInStep.yield r)) (λok s₃=>
      if ok=true then wpAny (model prog w) A (eval elt env) (λx s₄=>
       wpAny (model prog w) A (call (.builtin "list.append") [acc,x]) (λ_ s₅=>∃ m,m<n/\I m s₅) (λ_ _=>False) s₄) (λ_ _=>False) s₃
      else ∃ m,m<n/\I m s₃) (λ_ _=>False) s₂) (λ_ _=>False) s₁') (λ_ _=>False) s₁) (λ_ _=>False) s)
  (n:Nat)(h:I n s) :
  codeAny (model prog w) A (.compLoop (.ListComp elt [⟨target,iter,ifs,0⟩] scope pos) 0 it acc env) R s:=by
 refine codeAny_loop rfl I (λn s hI=>?_) n h;show wpAny _ A ((compTurn (.ListComp elt [⟨target,iter,ifs,0⟩] scope pos) 0 it acc env).onRaise (λx=>do noteFrame x env; theTreesLotGoes x)) _ _ s;refine wpAny_noted ?_;rw[compTurn_list];refine xAc (xGw (xAc (xCr (turn n s hI) (λr s₁ h₁=>?_) λ_ _ h'=>h'.elim)));cases r with
 | none=>exact xAq h₁
 | some v=>
  refine xAc (xCr h₁ (λ_ s₁' h₁'=>?_) λ_ _ h'=>h'.elim);refine xAc (xCr h₁' (λ_ s₂ h₂=>xAc (xCr h₂ (λok s₃ h₃=>?_) λ_ _ h'=>h'.elim)) λ_ _ h'=>h'.elim);cases ok with
  | false=>exact xAq ⟨rfl,h₃⟩
  | true=>
   exact xAc (xAc (xCr h₃ (λx s₄ h₄=>xAc (xCr h₄ (λ_ s₅ h₅=>xAq (xAq ⟨rfl,h₅⟩)) λ_ _ h'=>h'.elim)) λ_ _ h'=>h'.elim))

def eW (scope:Scope):List Str:=(scope.names.filter λx=>x.2==.free).map (·.1)
def gT (scope:Scope)(env:Env):List (Str×Addr):=(eW scope).foldl (λcs n=>(n,(env.cells.lookup n).getD 0)::cs) []
theorem iJ {scope:Scope}{env:Env}(h:∀ n∈eW scope,∃ c,env.cells.lookup n=some c):closureFor scope env=pure (gT scope env):=by
 have go:∀ (names:List (Str×NameKind)) (cs:List (Str×Addr)),(∀ n,(n,NameKind.free)∈names->∃ c,env.cells.lookup n=some c) ->
   (forIn names cs λ(x:Str×NameKind) r=>(do
    let (name,kind):=x
    if kind==.free then
     let a <- cellOf env name
     pure (ForInStep.yield ((name,a)::r))
    else pure (ForInStep.yield r):Sem (ForInStep (List (Str×Addr)))))=pure (((names.filter λx=>x.2==.free).map (·.1)).foldl (λcs n=>(n,(env.cells.lookup n).getD 0)::cs) cs):=by
  intro names
  induction names with
  | nil=>intro cs _; rfl
  | cons x r ih=>
   intro cs hx;obtain⟨n,k⟩:=x;rw[xGg]
   by_cases hk:k=.free
   ·subst hk;obtain⟨c,hc⟩:=hx n (by simp);have e:cellOf env n=pure c:=by unfold cellOf; rw[hc]
    simp only[beq_self_eq_true,if_true,e,pure_bind,List.filter_cons,List.map_cons,List.foldl_cons];rw[ih _ λm hm=>hx m (xBg _ hm),hc];rfl
   ·have hb:(k==NameKind.free)=false:=by simpa using hk
    simp only[hb,Bool.false_eq_true,if_false,pure_bind,List.filter_cons];exact ih _ λm hm=>hx m (xBg _ hm)
 unfold closureFor;have g:=go scope.names [] λn hn=>h n (by unfold eW; exact xAp.mpr ⟨(n,.free),xBx.mpr ⟨hn,by simp⟩,rfl⟩);refine (bind_congr (λ_=>rfl)).trans ?_;exact (congrArg (·>>=λr=>pure r) g).trans (by simp only[pure_bind]; rfl)

theorem mU {env:Env}:∀ (ns:List Str) (cs:List (Str×Addr)),(∀ n∈ns,∃ c,env.cells.lookup n=some c)->(∀ x c,cs.lookup x=some c->env.cells.lookup x=some c) ->
  ∀ x c,(ns.foldl (λcs n=>(n,(env.cells.lookup n).getD 0)::cs) cs).lookup x=some c->env.cells.lookup x=some c
 | [],cs,_,h=>h
 | n::r,cs,hn,h=>by
  refine mU r _ (λm hm=>hn m (xBg _ hm)) λx c e=>?_;rw[xEz] at e;cases q:(x==n) with
  | true=>
   rw[q] at e;have q':x=n:=by simpa using q
   subst q';obtain⟨c',hc⟩:=hn x xBk;rw[hc] at e ⊢;exact e
  | false=>rw[q] at e; exact h x c e
theorem mV {env:Env}:∀ (ns:List Str) (cs:List (Str×Addr)) (x:Str),(x∈ns\/∃ c,cs.lookup x=some c)->∃ c,(ns.foldl (λcs n=>(n,(env.cells.lookup n).getD 0)::cs) cs).lookup x=some c
 | [],cs,x,h=>by
  rcases h with h | h
  ·simp at h
  ·exact h
 | n::r,cs,x,h=>by
  refine mV r _ x ?_;rcases h with h | ⟨c,h⟩
  ·rcases xAo.mp h with rfl | h
   ·exact .inr ⟨(env.cells.lookup x).getD 0,by rw[xEz]; simp⟩
   ·exact .inl h
  ·refine .inr ?_;rw[xEz];cases q:(x==n) with
   | true=>exact⟨_,rfl⟩
   | false=>exact⟨c,h⟩

structure qC (scope:Scope):Prop where
 kind:scope.kind=.function
 cell:∀ y∈scope.names,y.2≠.cell
 loc:∀ y∈scope.names,y.2=.local->scope.names.lookup y.1=some .local
theorem xbs {scope:Scope}(a:scope.kind=.function:=by rfl)(b:∀ y∈scope.names,y.2≠.cell:=by decide +kernel)(c:∀ y∈scope.names,y.2=.local->scope.names.lookup y.1=some .local:=by decide +kernel):qC scope:=⟨a,b,c⟩

theorem kX {env:Env}:∀ {names:List (Str×NameKind)}{x:Str}{k:NameKind},(∀ y∈names,y.2≠.cell) ->
  (names.map λ(n,k)=>if (k==NameKind.free&&env.scope.kind==.function&&env.kindOf n==some .cell) then (n,NameKind.cell) else (n,k)).lookup x=some k->(k=.cell\/k=.free)->(x,NameKind.free)∈names
 | [],_,_,_,h,_=>by simp at h
 | (n,k0)::r,x,k,hc,h,hk=>by
  have ih:=@kX env r x k λy hy=>hc y (xBg _ hy);have hq:List.lookup x ((if (k0==NameKind.free&&env.scope.kind==.function&&env.kindOf n==some .cell)=true then (n,NameKind.cell) else (n,k0))::_)=some k:=h
  have hk0:=hc (n,k0) xBk
  by_cases q:(k0==NameKind.free&&env.scope.kind==.function&&env.kindOf n==some .cell)=true
  ·rw[xAu q,xEz] at hq
   have hf:k0=.free:=by
    rw[xBh,xBh] at q
    simpa using q.1.1
   subst hf;cases hx:x==n with
   | true=>
    have e:x=n:=by simpa using hx
    subst e;exact xBk
   | false=>
    rw[hx] at hq;exact xBg _ (ih hq hk)
  ·rw[xAt q,xEz] at hq;cases hx:x==n with
   | true=>
    rw[hx] at hq;have e:x=n:=by simpa using hx
    subst e;have e2:k0=k:=xBt hq;subst e2;rcases hk with z | z
    ·exact xAz z hk0
    ·rw[z]; exact xBk
   | false=>
    rw[hx] at hq;exact xBg _ (ih hq hk)

def Cx.blk (X:Cx)(scope:Scope)(N':List Str)(C:Addr)(s₃:Shared)(H₃:Hp)(fp:List Addr):Cx:=
 { X with N:=N',s₀:=s₃,H₀:=H₃,env:=compEnvC scope (gT scope X.env) C X.env,outer:=X.stack,stack:=X.stack,ex:=fp,fn:=λ_=>false,pn:=[],xe:=λ_ _=>False }

def eP (nown:Nat)(js:List Nat)(σ:St):St:=List.replicate nown none++js.map λj=>(σ[j]?).join
structure kO (X:Cx)(scope:Scope)(N':List Str)(nown:Nat)(js:List Nat):Prop where
 len:N'.length=nown+js.length
 at':∀ k j,js[k]?=some j->X.N[j]?=N'[nown+k]?
 cel:∀ n∈eW scope,X.env.kindOf n=some .cell\/X.env.kindOf n=some .free
 fre:∀ k x,nown<=k->N'[k]?=some x->x∈eW scope/\(relabel scope X.env).names.lookup x≠some .local

theorem aHr {X:Cx}{pins:xPn}{σ:St}{H:Hp}{s₃:Shared}{h₁:Heap}{tk:Nat}{scope:Scope}{N':List Str}{nown:Nat}{js:List Nat}{fp:List Addr}
  (I:Inv X pins σ H s₃)(S:qC scope)(B:kO X scope N' nown js)(hfp:∀ b∈fp,mY X pins H b)(hlt:∀ b∈fp,b<s₃.heap.objs.size)
  (hn:h₁.Ns s₃.heap.objs.size (λ_=>none))(hk:∀ b o,s₃.heap.get? b=some o->h₁.get? b=some o) :
  Inv (X.blk scope N' s₃.heap.objs.size s₃ H fp) [] (eP nown js σ) H { s₃ with heap:=h₁,toks:=tk }:=by
 have hcl:∀ n∈eW scope,∃ c,X.env.cells.lookup n=some c:=λn hn=>I.ok.has n (B.cel n hn);have cl1:∀ x c,(gT scope X.env).lookup x=some c->X.env.cells.lookup x=some c:=mU (eW scope) [] hcl λx c e=>by simp at e
 refine⟨⟨I.ok.mod,S.kind,I.ok.glob,I.ok.blt,xAl _,λx y c h1 h2=>I.ok.inj x y c (cl1 x c h1) (cl1 y c h2),λx hx=>?_,λx c h1 _=>?_,I.ok.hd,I.ok.frames,.inl rfl,λb hb=>⟨xBi (hlt b hb),λx c e=>(hfp b hb).2.2.2.2.1 x c (cl1 x c e)⟩,I.bs,xAn I.ok.bsz I.sz,λb o e hb=>?_,λb hb z=>?_,I.stack,I.stkFree⟩,
  rfl,I.bare,Un.kept hk,⟨_,hn,λi x v h1 h2 h3=>?_⟩,λx c e=>?_,I.hok.fresh (xAl _),λx c e=>I.freeC x c (cl1 x c e),λp hp=>?_,I.hok.kept hk,?_⟩
 ·have hx:(relabel scope X.env).names.lookup x=some .cell\/(relabel scope X.env).names.lookup x=some .free:=hx
  have m:(x,NameKind.free)∈scope.names:=by
   rcases hx with hx | hx
   ·exact kX S.cell hx (.inl rfl)
   ·exact kX S.cell hx (.inr rfl)
  exact mV (eW scope) [] x (.inl (xAp.mpr ⟨(x,.free),xBx.mpr ⟨m,by simp⟩,rfl⟩))
 ·exact xAz h1 (by simp[Cx.blk])
 ·have f:=(hfp b hb).2.2.2.1;rcases f with f | f
  ·exact I.ok.noex b o e f
  ·exact xAz (xBc (xAs (I.ok.bs b o e).1) f) (xDq _)
 ·rcases xAo.mp (I.stkSub b z) with e | e
  ·exact (hfp b hb).2.1 e
  ·exact (hfp b hb).2.2.1 e
 ·-- the names' values
  have h1:N'[i]?=some x:=h1
  have hi:nown<=i:=by
   by_cases q:nown<=i
   ·exact q
   ·exfalso;unfold eP at h2;rw[xBz (by rw[xEe]; omega),xIj] at h2;split at h2 <;> cases h2
  unfold eP at h2;rw[xCf (by rw[xEe]; exact hi),xEe,xAf] at h2;cases hj:js[i-nown]? with
  | none=>rw[hj] at h2; cases h2
  | some j=>
   rw[hj] at h2;have h2:some ((σ[j]?).join)=some (some v):=h2
   have e1:σ[j]?=some (some v):=by
    cases q:σ[j]? with
    | none=>rw[q] at h2; cases h2
    | some z=>rw[q] at h2; cases z with
     | none=>cases h2
     | some z=>cases h2; rfl
   have e2:X.N[j]?=some x:=by rw[B.at' _ j hj,show nown+(i-nown)=i by omega]; exact h1
   obtain⟨hfr,hnl⟩:=B.fre i x hi h1;have kx:=B.cel x hfr;obtain⟨m,hm,hl⟩:=I.loc
   obtain⟨u,r,l⟩:=hl j x v e2 e1 (by
    rcases kx with k | k
    ·exact .inr (.inl k)
    ·exact .inr (.inr k))
   refine⟨u,r,.inr ⟨?_,?_⟩⟩
   ·have hv:(relabel scope X.env).names.lookup x=some .local\/(relabel scope X.env).names.lookup x=some .cell\/(relabel scope X.env).names.lookup x=some .free:=h3;exact hv.resolve_left hnl
   ·rcases l with⟨k,_⟩ | ⟨k,c,e,z⟩
    ·rcases kx with k' | k' <;> rw[k] at k' <;> cases k'
    ·obtain⟨c',hc'⟩:=mV (env:=X.env) (eW scope) [] x (.inl hfr);have e3:=cl1 x c' hc';rw[e] at e3;cases e3;obtain⟨o,ho,hd⟩:=z;exact⟨c,hc',o,hk c o ho,hd⟩
 ·obtain⟨v,o,ho,hd⟩:=I.cell x c (cl1 x c e);exact⟨v,o,hk c o ho,hd⟩
 ·exact xAz (show p∈([]:xPn) from hp) (by simp)
 ·unfold eP;show _=N'.length;rw[xAr,xEe,xAa,B.len]

theorem Inv.back {X:Cx}{pins:xPn}{σ σ':St}{H H':Hp}{s₃ s':Shared}{scope:Scope}{N':List Str}{C:Addr}{fp:List Addr}{pl:xPn}
  (I:Inv X pins σ H s₃)(hfp:∀ b∈fp,mY X pins H b)(J:Inv (X.blk scope N' C s₃ H fp) pl σ' H' s'):Inv X pins σ H' s':=
 I.call' J.os J.base J.hok J.bare λb hb=>⟨(hfp b hb).2.2.2.1,(hfp b hb).2.1,(hfp b hb).2.2.2.2.1,(hfp b hb).2.2.2.2.2⟩

def PTs (X:Cx)(ifs:List Expr)(t:TT):Prop:=
 ∀ (pins:xPn) (s:Shared) (σ:St) (H:Hp) (Q:Bool->Hp->Prop),Inv X pins σ H s->t σ H Q ->
  wpAny (model X.prog X.w) X.A (forIn ifs true λc r=>if r=true then do let ok <- isTrue c X.env (eval c X.env); pure (ForInStep.yield ok) else pure (ForInStep.yield r)) (TP X pins σ Q) X.xe s
def aVk:TT:=λ_ H Q=>Q true H
theorem eV {X:Cx}:PTs X [] aVk:=λ_ _ _ H _ I h=>wpAny_tests_nil ⟨H,I,h⟩
theorem iP {X:Cx}{c:Expr}{t:TT}(h:PT X c t):PTs X [c] t:=λpins s σ H Q I q=>wpAny_tests_one (h pins s σ H Q I q)

def yH (J:It)(D:Addr)(g:TG)(tc:TT)(te:TE)(R:Hp->Prop)(σ:St)(H:Hp):Prop:=
 ∃ W:Nat->Nat->St->Hp->Prop,(∃ m,W 0 m σ H)/\∀ i m σ H,W i m σ H ->
  (J.stop i H/\R H)\/(J.go i H/\∃ N:St->Hp->Prop,(∀ σ' H',N σ' H'->∃ m',m'<m/\W (i+1) m' σ' H')/\∀ x H',J.yld i H x H'->g x σ H' λσ2 H2=>tc σ2 H2 λb H3=>
   if b=true then te σ2 H3 λy H4=>∃ ys,H4 D=some (.lst ys)/\ys.length<sizeLine/\N σ2 (upd H4 D (.lst (ys++[y]))) else N σ2 H3)
def aPe (wi:TI)(nown:Nat)(js:List Nat)(g:TG)(tc:TT)(te:TE):TE:=λσ H Q=>
 wi σ H λJ H1=>∀ D,H1 D=none->yH J D g tc te (λH2=>Q (.ref D) H2) (eP nown js σ) (upd H1 D (.lst []))

structure Blk (X:Cx)(scope:Scope)(N':List Str)(tg elt:Expr)(ifs:List Expr)(g:TG)(tc:TT)(te:TE):Prop where
 tg:∀ C s₃ H₃ fp,PG (X.blk scope N' C s₃ H₃ fp) tg g
 tc:∀ C s₃ H₃ fp,PTs (X.blk scope N' C s₃ H₃ fp) ifs tc
 te:∀ C s₃ H₃ fp,PE (X.blk scope N' C s₃ H₃ fp) elt te

theorem uJ {X:Cx}{tg elt iter:Expr}{ifs:List Expr}{scope:Scope}{pos:Pos}{N':List Str}{nown:Nat}{js:List Nat}{g:TG}{tc:TT}{te:TE}{E:xVP}
  (hc:X.calm=true)(S:qC scope)(B:kO X scope N' nown js)(K:Blk X scope N' tg elt ifs g tc te)
  {pins:xPn}{σ:St}{H2:Hp}{s₂:Shared}{it:Addr}{fp:List Addr}{tn:Nat->Heap->Prop}{J:It}{Q:VK}{RR:Value->Addr->Result->Shared->Prop}
  (I2:Inv X pins σ H2 s₂)(T:aAr X.prog X.w X.K tg J fp it tn)(st2:tn 0 s₂.heap)(f2:∀ b∈fp,mY X pins H2 b)
  (h:∀ D,H2 D=none->yH J D g tc te (λH'=>Q (.ref D) H') (eP nown js σ) (upd H2 D (.lst [])))
  (hRR:∀ (D C:Addr) (H':Hp) (s':Shared),Inv X pins σ H' s'->(∃ m,s'.heap.Ns C m)->(∀ h',Heap.SameBut C s'.heap h'->Inv X pins σ H' { s' with heap:=h' })->mY X pins H' C->Q (.ref D) H'->RR (.ref D) C (.ok .next) s') :
  wpAny (model X.prog X.w) X.A (newList []) (λacc s₃=>wpAny (model X.prog X.w) X.A (newFunctionEnv scope X.env.globals (gT scope X.env) [] X.env.qual none .none (some X.env)) (λcenv s₄=>
   codeAny (model X.prog X.w) X.A (.compStart (.ListComp elt [⟨tg,iter,ifs,0⟩] scope pos) 0 (.ref it) acc { cenv with scope:=relabel scope X.env }) (RR acc cenv.locals) s₄) E s₃) E s₂:=by
 have hD:H2 s₂.heap.objs.size=none:=I2.hok.fresh (xAl _);have k3:∀ b o,s₂.heap.get? b=some o->(s₂.heap.push { cls:=.type "list",dict:=none,data:=.seq ([]:List Value).toArray }).get? b=some o:=λb o e=>xAj _ e
 have I3:Inv X pins σ (upd H2 s₂.heap.objs.size (.lst [])) { s₂ with heap:=s₂.heap.push { cls:=.type "list",dict:=none,data:=.seq ([]:List Value).toArray } }:=
  I2.laid (t':=s₂.toks) k3 (xAl _) ⟨xBr _,[],0,.nil,xAw _ rfl⟩
 have lt2:∀ b∈fp,b<s₂.heap.objs.size:=λb hb=>let ⟨o,e,_⟩:=T.obj 0 _ st2 b hb; xAs e;have f3:∀ b∈fp,mY X pins (upd H2 s₂.heap.objs.size (.lst [])) b:=λb hb=>⟨by rw[aL (xBi (lt2 b hb))]; exact (f2 b hb).1,(f2 b hb).2⟩;have st3:=T.keep 0 _ _ st2 λb _ o e=>k3 b o e;obtain⟨W,⟨m0,w0⟩,turn⟩:=h _ hD;refine xCz (wpAny_newFunctionEnv S.cell (by intro y hy; simp at hy) (λh₁ hns₁ hsb₁=>?_) S.kind);dsimp only at hns₁ hsb₁ ⊢;generalize hs3:({ s₂ with heap:=s₂.heap.push { cls:=.type "list",dict:=none,data:=.seq ([]:List Value).toArray } }:Shared)=s₃ at I3;have h3:s₂.heap.push { cls:=.type "list",dict:=none,data:=.seq ([]:List Value).toArray }=s₃.heap:=by rw[<- hs3]
 rw[h3] at hns₁ hsb₁ st3 ⊢;have k4:∀ b o,s₃.heap.get? b=some o->h₁.get? b=some o:=λb o e=>hsb₁.extBut b o (xBi (xAs e)) (xAj _ e)
 have hns:h₁.Ns s₃.heap.objs.size (λ_=>none):=by
  obtain⟨o,es,ep,e,d,k,r⟩:=hns₁;exact⟨o,es,ep,e,d,k,λn=>by rw[r n]; rfl⟩
 have lt3:∀ b∈fp,b<s₃.heap.objs.size:=λb hb=>let ⟨o,e,_⟩:=T.obj 0 _ st3 b hb; xAs e;have J0:∀ tk,Inv (X.blk scope N' s₃.heap.objs.size s₃ (upd H2 s₂.heap.objs.size (.lst [])) fp) [] (eP nown js σ) (upd H2 s₂.heap.objs.size (.lst [])) { s₃ with heap:=h₁,toks:=tk }:=λtk=>aHr I3 S B f3 lt3 hns k4
 have loop:∀ s4:Shared,s4={ s₃ with heap:=h₁,toks:=s₂.toks+([]:List (Str×Value)).length } ->
   codeAny (model X.prog X.w) X.A (.compLoop (.ListComp elt [⟨tg,iter,ifs,0⟩] scope pos) 0 (.ref it) (.ref s₂.heap.objs.size) (compEnvC scope (gT scope X.env) s₃.heap.objs.size X.env)) (RR (.ref s₂.heap.objs.size) s₃.heap.objs.size) s4:=by
  rintro s4 rfl
  have Y:∀ b∈fp,mY (X.blk scope N' s₃.heap.objs.size s₃ (upd H2 s₂.heap.objs.size (.lst [])) fp) [] (upd H2 s₂.heap.objs.size (.lst [])) b:=λb hb=>by
   have F:=f3 b hb;refine⟨F.1,xBi (lt3 b hb),λz=>?_,.inl hb,(J0 0).ok.exf b hb |>.2,λp hp=>xAz (show p∈([]:xPn) from hp) (by simp)⟩
   exact (J0 0).ok.exfs b hb z
  have stat:∀ {H':Hp},(∀ b∈fp,H' b=none)->∀ b∈fp,mY (X.blk scope N' s₃.heap.objs.size s₃ (upd H2 s₂.heap.objs.size (.lst [])) fp) [] H' b:=λhn b hb=>⟨hn b hb,(Y b hb).2⟩
  refine aHl (λn s'=>∃ i σ' H',Inv (X.blk scope N' s₃.heap.objs.size s₃ (upd H2 s₂.heap.objs.size (.lst [])) fp) [] σ' H' s'/\tn i s'.heap/\(∀ b∈fp,H' b=none)/\W i n σ' H') ?_ m0
   ⟨0,_,_,J0 _,T.keep 0 _ _ st3 λb _ o e=>k4 b o e,λb hb=>(f3 b hb).1,w0⟩
  rintro n s5 ⟨i,σ5,H5,I5,st5,fr5,w5⟩;rcases turn i n σ5 H5 w5 with⟨stop,qn⟩ | ⟨go,N,hN,step⟩
  ·refine thn (T.done (X.blk scope N' s₃.heap.objs.size s₃ (upd H2 s₂.heap.objs.size (.lst [])) fp) rfl rfl rfl hc i [] s5 σ5 H5 _ I5 (stat fr5) st5 stop) λr s6 ⟨hr,I6⟩=>?_;subst hr;have I6':Inv X pins σ H5 s6:=I3.back f3 I6;have hC:mY X pins H5 s₃.heap.objs.size:=I3.fpOk (xAl _) I6.free;refine hRR _ _ H5 s6 I6' (let ⟨m,hm,_⟩:=I6.loc; ⟨m,hm⟩) (λh' sb=>?_) hC qn;exact I6'.turned (t':=s6.toks) (λb o hb e=>(sb.2 b hb).trans e) hC.1 hC.2.1 hC.2.2.2.1 hC.2.2.2.2.1 hC.2.2.2.2.2
  ·refine thn (T.item (X.blk scope N' s₃.heap.objs.size s₃ (upd H2 s₂.heap.objs.size (.lst [])) fp) rfl rfl rfl hc i [] s5 σ5 H5 _ I5 (stat fr5) st5 go) λr s6 ⟨u,hr,h6⟩=>?_;subst hr;refine thn h6 λ_ s7 ⟨x,H7,I7,r7,y7,st7,fr7⟩=>?_;have I7':=I7.pinned (stat fr7) (T.obj _ _ st7)
   have again:∀ {σ9:St}{H9:Hp}{s9:Shared},Inv (X.blk scope N' s₃.heap.objs.size s₃ (upd H2 s₂.heap.objs.size (.lst [])) fp) ([]++tS fp s7.heap) σ9 H9 s9->N σ9 H9 ->
     ∃ m,m<n/\∃ i σ' H',Inv (X.blk scope N' s₃.heap.objs.size s₃ (upd H2 s₂.heap.objs.size (.lst [])) fp) [] σ' H' s9/\tn i s9.heap/\(∀ b∈fp,H' b=none)/\W i m σ' H':=λ{σ9 H9 s9} I9 n9=>by
    obtain⟨m',hm,w9⟩:=hN σ9 H9 n9;refine⟨m',hm,i+1,σ9,H9,I9.unpinned,T.keep _ _ _ st7 λb hb o e=>(I9.pin (b,o) (xBn _ (xBn _ (lC hb e)))).1,λb hb=>?_,w9⟩;obtain⟨o,e,d⟩:=T.obj _ _ st7 b hb;exact (I9.pin (b,o) (xBn _ (xBn _ (lC hb e)))).2.1
   refine thn (K.tg _ _ _ _ _ s7 σ5 H7 x u _ I7' r7 (step x H7 y7)) λ_ s8 ⟨σ8,H8,I8,q8⟩=>?_;refine thn (K.tc _ _ _ _ _ s8 σ8 H8 _ I8 q8) λok s9 ⟨H9,I9,q9⟩=>?_;cases ok with
   | false=>exact again I9 q9
   | true=>
    rw[xAu rfl] at q9 ⊢;refine thn (K.te _ _ _ _ _ s9 σ8 H9 _ I9 q9) λy s10 ⟨yv,H10,I10,r10,ys,e10,l10,q10⟩=>?_;refine thn (iY _ s10 σ8 H10 (.ref s₂.heap.objs.size) [yv] (.ref s₂.heap.objs.size) [y] (λv H'=>N σ8 H') I10 rfl (.cons r10 .nil) ⟨_,ys,yv,rfl,rfl,e10,l10,q10⟩) λ_ s11 ⟨_,H11,I11,_,q11⟩=>again I11 q11
 have fin:=loop _ rfl;have e4:({ s₂ with heap:=h₁,toks:=s₂.toks+([]:List (Str×Value)).length }:Shared)={ s₃ with heap:=h₁,toks:=s₂.toks+([]:List (Str×Value)).length }:=by rw[<- hs3]
 rw[<- e4] at fin;refine codeAny_compStart_list fin (T.self _ 0 _ _ _ ?_ fin);exact T.keep 0 _ _ st3 λb _ o e=>k4 b o e

section
variable {X:Cx}{tg elt iter:Expr}{ifs:List Expr}{scope:Scope}{pos:Pos}{N':List Str}{nown:Nat}{js:List Nat}{wi:TI}{g:TG}{tc:TT}{te:TE}
theorem eN (hc:X.calm=true)(S:qC scope)(B:kO X scope N' nown js)(K:Blk X scope N' tg elt ifs g tc te)(hi:PI X tg iter wi)
  (hs:∀ x,foldedSetIterable iter X.env x=pure x:=by intro _; rfl):PE X (.ListComp elt [⟨tg,iter,ifs,0⟩] scope pos) (aPe wi nown js g tc te):=by
 intro pins s σ H Q I h;have hcl:closureFor scope X.env=pure (gT scope X.env):=iJ λn hn=>I.ok.has n (B.cel n hn);rw[eval_ListComp];refine xIa (use:=none) rfl hs hcl S.kind S.loc (thn (hi pins s σ H _ I h) λxv s₁ h₁=>thn h₁ λitv s₂ h₂=>?_);obtain⟨it,fp,tn,J,H2,e,I2,T,st2,f2,q⟩:=h₂;subst e;refine uJ (RR:=λacc C=>compPost (model X.prog X.w) X.A X.xe none (EP X pins σ Q) acc C) hc S B K I2 T st2 f2 q λD C H' s' I' hm k hC qq=>?_;obtain⟨m,hm⟩:=hm;exact⟨m,hm,λh' sb=>⟨.ref D,H',k h' sb,rfl,qq⟩⟩
theorem gE {i:Nat}{x:Str}{px spos:Pos}(hsw:swapsWith (.ListComp elt [⟨tg,iter,ifs,0⟩] scope pos) (some (.Name x px)) spos.line X.env=pure true)(hN:X.N.Nodup)(hi':X.N[i]?=some x)(hx:X.env.scope.names.lookup x=some .local)
  (hc:X.calm=true)(S:qC scope)(B:kO X scope N' nown js)(K:Blk X scope N' tg elt ifs g tc te)(hi:PI X tg iter wi)
  (hs:∀ x,foldedSetIterable iter X.env x=pure x:=by intro _; rfl):PS X (.Assign [.Name x px] (.ListComp elt [⟨tg,iter,ifs,0⟩] scope pos) spos) (aMw (aPe wi nown js g tc te) (hU i)):=by
 intro pins s σ H D I h;have hcl:closureFor scope X.env=pure (gT scope X.env):=iJ λn hn=>I.ok.has n (B.cel n hn);rw[exec_Assign_Name_used _ _ _ _ hsw];refine xAc (xGw (xAc ?_));show wpAny _ _ (do let _ <- comprehension (.ListComp elt [⟨tg,iter,ifs,0⟩] scope pos) scope X.env _ (newList []) false (eval iter X.env) (some (assign (.Name x px) X.env))) _ _ s
 refine xAc (xCr (xIa (use:=some (assign (.Name x px) X.env)) (Q:=λ_ s'=>SP X pins D .next s') rfl hs hcl S.kind S.loc (thn (hi pins s σ H _ I h) λxv s₁ h₁=>thn h₁ λitv s₂ h₂=>?_))
  (λ_ s' hq=>xAq (xAq hq)) λ_ _ e=>e)
 obtain⟨it,fp,tn,J,H2,e,I2,T,st2,f2,q⟩:=h₂;subst e;refine uJ (RR:=λacc C=>compPost (model X.prog X.w) X.A X.xe (some (assign (.Name x px) X.env)) (λ_ s'=>SP X pins D .next s') acc C) (Q:=λv H'=>D.nx (σ.set i (some v)) H') hc S B K I2 T st2 f2 q λDa C H' s' I' hm k hC qq=>?_;show wpAny _ _ (assign (.Name x px) X.env (.ref Da)) _ _ _;refine wpAny_assign_Name (vK I' hN hi' (.inl hx) (v:=.ref Da) rfl (λs'' I'' ⟨a,sb,ha⟩=>?_) (.inr hx))
 have hCa:C≠a:=by
  rcases ha with rfl | ha
  ·exact hC.2.1
  ·exact λz=>hC.2.2.2.2.1 x a ha z.symm
 obtain⟨m,hm⟩:=hm;refine⟨m,hm.sameBut sb hCa,λh' sb'=>⟨_,H',?_,qq⟩⟩;exact I''.turned (t':=s''.toks) (λb o hb e=>(sb'.2 b hb).trans e) hC.1 hC.2.1 hC.2.2.2.1 hC.2.2.2.2.1 hC.2.2.2.2.2
end

theorem hV {K:xAb}{a D:Addr}{xs:List V}{g:TG}{tc:TT}{te:TE}{R:Hp->Prop}{σ:St}{H:Hp}(Pv:Nat->St->Hp->Prop)(h0:Pv 0 σ H)
  (hl:∀ i σ H,i<=xs.length->Pv i σ H->SqL K H a xs)
  (hs:∀ i x σ H,xs[i]?=some x->Pv i σ H->g x σ H λσ2 H2=>tc σ2 H2 λb H3=>if b=true then te σ2 H3 λy H4=>∃ ys,H4 D=some (.lst ys)/\ys.length<sizeLine/\Pv (i+1) σ2 (upd H4 D (.lst (ys++[y]))) else Pv (i+1) σ2 H3)
  (hd:∀ σ H,Pv xs.length σ H->R H):yH (Itl K a) D g tc te R σ H:=by
 refine⟨λi m σ H=>m=xs.length-i/\i<=xs.length/\Pv i σ H,⟨xs.length,by simp,xBr _,h0⟩,?_⟩;rintro i m σ H ⟨rfl,hi,p⟩;have q:=hl i σ H hi p
 by_cases hlt:i<xs.length
 ·refine .inr ⟨⟨xs,xs[i],q,by simp[hlt]⟩,Pv (i+1),λσ' H' p'=>⟨xs.length-(i+1),by omega,rfl,hlt,p'⟩,λx H' y=>?_⟩;obtain⟨e,y⟩:=y;subst e;exact hs i x σ _ (y xs q) p
 ·have e:i=xs.length:=by omega
  subst e;exact .inl ⟨⟨xs,q,xAl _⟩,hd σ H p⟩
theorem iH {lo:Int}{n:Nat}{D:Addr}{g:TG}{tc:TT}{te:TE}{R:Hp->Prop}{σ:St}{H:Hp}(Pv:Nat->St->Hp->Prop)(h0:Pv 0 σ H)
  (hs:∀ i σ H,i<n->Pv i σ H->g (.int (lo+i)) σ H λσ2 H2=>tc σ2 H2 λb H3=>if b=true then te σ2 H3 λy H4=>∃ ys,H4 D=some (.lst ys)/\ys.length<sizeLine/\Pv (i+1) σ2 (upd H4 D (.lst (ys++[y]))) else Pv (i+1) σ2 H3)
  (hd:∀ σ H,Pv n σ H->R H):yH (Itr lo n) D g tc te R σ H:=by
 refine⟨λi m σ H=>m=n-i/\i<=n/\Pv i σ H,⟨n,by simp,xBr _,h0⟩,?_⟩;rintro i m σ H ⟨rfl,hi,p⟩
 by_cases hlt:i<n
 ·refine .inr ⟨hlt,Pv (i+1),λσ' H' p'=>⟨n-(i+1),by omega,rfl,hlt,p'⟩,λx H' y=>?_⟩;obtain⟨e,y⟩:=y;subst e y;exact hs i σ _ hlt p
 ·have e:i=n:=by omega
  subst e;exact .inl ⟨xAl _,hd σ H p⟩
theorem aOv {x:Str}{D:Addr}{g:TG}{tc:TT}{te:TE}{R:Hp->Prop}{σ:St}{H:Hp}(Pv:Nat->St->Hp->Prop)(h0:Pv 0 σ H)
  (hs:∀ i c σ H,x.cps[i]?=some c->Pv i σ H->g (aEe c) σ H λσ2 H2=>tc σ2 H2 λb H3=>if b=true then te σ2 H3 λy H4=>∃ ys,H4 D=some (.lst ys)/\ys.length<sizeLine/\Pv (i+1) σ2 (upd H4 D (.lst (ys++[y]))) else Pv (i+1) σ2 H3)
  (hd:∀ σ H,Pv x.cps.size σ H->R H):yH (Its x) D g tc te R σ H:=by
 refine⟨λi m σ H=>m=x.cps.size-i/\i<=x.cps.size/\Pv i σ H,⟨x.cps.size,by simp,xBr _,h0⟩,?_⟩;rintro i m σ H ⟨rfl,hi,p⟩
 by_cases hlt:i<x.cps.size
 ·refine .inr ⟨hlt,Pv (i+1),λσ' H' p'=>⟨x.cps.size-(i+1),by omega,rfl,hlt,p'⟩,λv H' y=>?_⟩;obtain⟨e,c,hc,rfl⟩:=y;subst e;exact hs i c σ _ hc p
 ·have e:i=x.cps.size:=by omega
  subst e;exact .inl ⟨xAl _,hd σ H p⟩

section
variable {X:Cx}{e:Expr}{te:TE}{lo hi:Option Expr}{tl th:TO}{pos p2:Pos}
end

section
variable {X:Cx}
theorem aDr:∀ {bs:List Bool}{us:List Value},cH (bs.map V.bl) us->∀ (i:Nat) (v:Value),us[i]?=some v->∃ b,bs[i]?=some b/\v=.bool b
 | [],_,.nil,_,_,e=>by simp at e
 | b::bs,_,.cons r rr,0,v,e=>by
  cases r;simp at e;exact⟨b,rfl,e.symm⟩
 | b::bs,_,.cons r rr,i+1,v,e=>by
  obtain⟨c,h1,h2⟩:=aDr (bs:=bs) rr i v (by simpa using e);exact⟨c,by simpa using h1,h2⟩
inductive aYk (K:xAb)(xs:List V)(H:Hp)(Q:VK):Prop
 | mk (a:Addr)(bs:List Bool)(h0_:xs=[.ref a])(h1_:SqL K H a (bs.map V.bl))(h2_:Q (.bl (bs.all id)) H)
theorem wG (hc:X.calm=true):CallR X (.builtin "all") (aYk X.K):=by
 intro pins s σ H xs us Q I r h;obtain⟨a,bs,rfl,hs,q⟩:=h;obtain⟨u,rfl,rx⟩:=jN r;cases rx;obtain⟨its,rv,pl,hz⟩:=I.list hs;have hl:=pl.isList;have hlt:a<s.heap.objs.size:=by obtain⟨_,e,_⟩:=hl; exact xAs e
 have hlen:its.length=bs.length:=by rw[<- rv.length,xAa]
 refine call_all_walk (xFm hl ⟨s.heap.objs.size,[s.heap.objs.size,a],[s.heap.objs.size],its.toArray.size,_,_,λi=>(bs[i]?).getD true,rfl,
  Walks.list (A:=X.A.in1) (I.ok.hd hc) _ a (xBi hlt) its.toArray,⟨⟨_,xAw _ rfl,rfl,rfl⟩,hl.push _⟩,λi v s' Q' E' hP hQ=>?_,λh' tk hk=>?_⟩)
 ·obtain⟨b,eb,rfl⟩:=aDr rv i v (by simpa using hP);simp only[eb,Option.getD_some] at hQ;exact xCj hQ
 ·have ea:((List.range its.toArray.size).all λi=>(bs[i]?).getD true)=bs.all id:=by
   rw[xBd,hlen];exact LSm.range_all bs
  rw[ea];exact⟨.bl (bs.all id),H,I.kept (LSm.kept_iter hk),rfl,q⟩
inductive aVa (K:xAb)(xs:List V)(H:Hp)(Q:VK):Prop
 | mk (x:_)(c:_)(cv:_)(t:_)(b:_)(h0_:xs=[x,c])(h1_:(∀ u,cO c u->u=cv))(h2_:jY K H x t)(h3_:kitOne K t cv=some b)(h4_:Q (.bl b) H)
theorem uN:CallR X (.builtin "isinstance") (aVa X.K):=by
 intro pins s σ H xs us Q I r h;obtain⟨x,c,cv,t,b,rfl,hc,ty,e,q⟩:=h;obtain⟨u,w',rfl,rx,rc⟩:=aHz r;have ec:=hc w' rc;subst ec;exact aHa I rx ty e λtk=>⟨.bl b,H,I.tok tk,rfl,q⟩
theorem lP {T:String}:∀ u,cO (.ty T) u->u=.type T:=λ_ r=>r
theorem aNi {a:Addr}:∀ u,cO (.ref a) u->u=.ref a:=λ_ r=>r
end

def aVs (P:St->Hp->Prop)(t u:TS):TS:=λD σ H=>t { D with nx:=P } σ H/\∀ σ' H',P σ' H'->u D σ' H'
theorem jQ {X:Cx}{st:Stmt}{rest:List Stmt}{t u:TS}(P:St->Hp->Prop)(h1:PS X st t)(h2:PSs X rest u):PSs X (st::rest) (aVs P t u):=by
 intro pins s σ H D I h;obtain⟨ht,hu⟩:=h;refine xHm (thn (h1 pins s σ H { D with nx:=P } I ht) λf s1 q=>?_);cases f with
 | next=>
  obtain⟨σ',H',I',q⟩:=q;exact h2 pins s1 σ' H' D I' (hu σ' H' q)
 | ret v=>exact q
 | brk=>exact q
 | cont=>exact q
namespace Bo
theorem isinstance:bootBuiltins "isinstance" = some (.builtin "isinstance"):=by decide +kernel
theorem str:bootBuiltins "str" = some (.type "str"):=by decide +kernel
theorem bool:bootBuiltins "bool" = some (.type "bool"):=by decide +kernel
theorem int:bootBuiltins "int" = some (.type "int"):=by decide +kernel
theorem list:bootBuiltins "list" = some (.type "list"):=by decide +kernel
theorem tuple:bootBuiltins "tuple" = some (.type "tuple"):=by decide +kernel
theorem all:bootBuiltins "all" = some (.builtin "all"):=by decide +kernel
theorem len:bootBuiltins "len" = some (.builtin "len"):=by decide +kernel
theorem sorted:bootBuiltins "sorted" = some (.builtin "sorted"):=by decide +kernel
theorem enumerate:bootBuiltins "enumerate" = some (.type "enumerate"):=by decide +kernel
end Bo
def yX (scope sc:Scope):List (Str×NameKind):=scope.names.map λ(n,k)=>if (k==.free&&sc.kind==.function&&sc.names.lookup n==some .cell) then (n,.cell) else (n,k)
def aQc (sc scope:Scope)(N N':List Str)(nown:Nat)(js:List Nat):Bool:=
 decide (N'.length=nown+js.length)&&(List.range js.length).all (λk=>decide (N[js.getD k 0]?=N'[nown+k]?))
  && (eW scope).all (λn=>decide (sc.names.lookup n=some .cell)||decide (sc.names.lookup n=some .free))
  && (List.range js.length).all (λk=>match N'[nown+k]? with | some x=>decide (x∈eW scope)&&decide ((yX scope sc).lookup x≠some .local) | none=>false)
theorem cJ {X:Cx}{scope:Scope}{N':List Str}{nown:Nat}{js:List Nat}(sc:Scope)(N:List Str)(hsc:X.env.scope=sc)(hN:X.N=N)(h:aQc sc scope N N' nown js=true):kO X scope N' nown js:=by
 subst hsc hN;unfold aQc at h;rw[Bool.and_eq_true,Bool.and_eq_true,Bool.and_eq_true] at h;obtain⟨⟨⟨h1,h2⟩,h3⟩,h4⟩:=h;have h1:=of_decide_eq_true h1;refine⟨h1,λk j e=>?_,λn hn=>?_,λk x hk e=>?_⟩
 ·have hk:k<js.length:=(List.getElem?_eq_some_iff.mp e).1;have q:=of_decide_eq_true (List.all_eq_true.mp h2 k (List.mem_range.mpr hk));have ej:js.getD k 0=j:=by rw[List.getD_eq_getElem?_getD,e]; rfl
  rw[ej] at q;exact q
 ·have q:=List.all_eq_true.mp h3 n hn;rw[Bool.or_eq_true] at q;exact q.imp (λz=>of_decide_eq_true z) λz=>of_decide_eq_true z
 ·have hl:k<N'.length:=(List.getElem?_eq_some_iff.mp e).1;have q:=List.all_eq_true.mp h4 (k-nown) (List.mem_range.mpr (by omega));have ek:nown+(k-nown)=k:=by omega
  rw[ek,e] at q;have q':(decide (x∈eW scope)&&decide ((yX scope X.env.scope).lookup x≠some .local))=true:=q;rw[Bool.and_eq_true] at q';exact⟨of_decide_eq_true q'.1,of_decide_eq_true q'.2⟩

def rE:Expr->Bool
 | .Starred ..=>true
 | _=>false
theorem dI {e:Expr}{es:List Expr}{env:Env}(h:rE e=false):starEach (e::es) env=(false,eval e env)::starEach es env:=by
 cases e <;> first | rfl | cases h
theorem pac {X:Cx}{e:Expr}{es:List Expr}{te:TE}{t:TA}(ha:PE X e te)(hr:PA X es t)(hs:rE e=false:=by rfl):PA X (e::es) (rL te t):=iR ha hr (dI hs)

end L2
namespace L2
open PySem PySem.W
section
variable {X:Cx}{D:uW}{s1 s2 s3 s4 s5:Stmt}{rest:List Stmt}{t1 t2 t3 t4 t5:TS}{J:St->Hp->Prop}
end
end L2
namespace L2
open PySem PySem.Spec PyProof.Rows PySem.W

inductive CXE (P:Program)(w:World)(outer:List Env)(H:Hp)(s:Shared)(E:XK)(ev:Value)(s':Shared):Prop
 | mk (e t:Addr)(cls:Value)(vs:List Value)(H':Hp)(B:Heap)(h1:ev=.ref e)(h2:s'.os=s.os)(h3:AllBare s'.gens)(h4:Un (frs outer) [] H H' s.heap s'.heap)(h5:HOk P w H' s'.heap)
  (h6:Heap.FlyingW B outer e cls (.ref t) s'.heap)(h7:s'.heap.TupAt t vs)(h8:B.get? t=none)
  (h9:∀ b o,s.heap.get? b=some o->H b=none->b∉frs outer->B.get? b=some o)(h10:∀ b u,H' b=some u->∃ o,B.get? b=some o)
  (h11:∀ b o,s.heap.get? b=some o->b∉frs outer->∃ o',B.get? b=some o')(h12:E cls none H')
theorem HOk.inB {P:Program}{w:World}{H:Hp}{h h' B:Heap}(x:HOk P w H h)(k:B.StaysIn h)(k':B.StaysIn h')(t:∀ b u,H b=some u->∃ o,B.get? b=some o):HOk P w H h':=λa o e=>by
 refine (x a o e).stay (λb u hb q=>?_) (λ_ q=>q) λ_ _ q=>q
 have hs:∃ v,H b=some v:=by
  rcases hb with rfl | hb
  ·exact⟨o,e⟩
  ·exact⟨_,hb⟩
 obtain⟨v,hv⟩:=hs;obtain⟨o',ho⟩:=t b v hv
 have:=k b o' ho
 rw[q] at this;cases this;exact k' b u ho
structure Cx.Body (X:Cx)(E:XK):Prop where
 xe:X.xe=λev s'=>wpAny (model X.prog X.w) X.A (leaving X.env ev) (λ_ s''=>CXE X.prog X.w X.outer X.H₀ X.s₀ E ev s'') (λev' s''=>CXE X.prog X.w X.outer X.H₀ X.s₀ E ev' s'') s'
 stk:X.stack=X.env::X.outer
 frm:X.env.frame=some X.env.locals
 ex:X.ex=[]
theorem sQ {P:Program}{w:World}{K:xAb}{mg:xSO}{base:Heap}{N:List Str}{qual:Str}{scope:Scope}{f:Addr}{cd:Value}{A:Around}{outer:List Env}{s:Shared}{H:Hp}{E:XK} :
  (lG (CXE P w) P w K mg base N qual scope f cd A outer s H E).Body E:=⟨rfl,rfl,rfl,rfl⟩
section
variable {X:Cx}{E:XK}
theorem Cx.Body.stkFrs (D:X.Body E):frs X.stack=X.env.locals::X.fs:=by
 rw[D.stk];show List.filterMap _ (X.env::X.outer)=_;rw[xEl,D.frm];rfl
theorem Cx.Body.passes (D:X.Body E){E':XK}(hE:∀ c d H',E' c d H'->E c d H'):fP (CXE X.prog X.w) X E':=by
 intro pins σ H s ev s' I h;obtain⟨e,t,cls,vs,H',B,rfl,h2,h3,h4,h5,h6,h7,h8,h9,h10,h12,h11⟩:=h;have J:Inv X pins σ H' s':=I.call' (ch:=[]) h2 h4 h5 h3 λ_ z=>nomatch z;rw[D.xe];show wpAny (model X.prog X.w) X.A (leaving X.env (.ref e)) _ _ s';have hfr:X.A.frames=some (X.env::X.outer):=by rw[I.ok.frames,D.stk]
 rw[D.stk] at h6;refine wpAny_leaves_onW hfr D.frm h6 λh' f1 f2=>?_;have neL:∀ b o,X.s₀.heap.get? b=some o->b≠X.env.locals:=λb o q=>xBi (xBc (xAs q) I.ok.above)
 have inB:∀ b o,X.s₀.heap.get? b=some o->X.H₀ b=none->b∉X.fs->B.get? b=some o:=λb o q n hb=>by
  have nex:b∉X.ex:=by rw[D.ex]; simp
  refine h9 b o (I.base.keep b o q n hb nex) (I.base.free b o q n nex) ?_;rw[D.stkFrs];intro z;rcases xAo.mp z with z | z
  ·exact neL b o q z
  ·exact hb z
 have allB:∀ b o,X.s₀.heap.get? b=some o->b∉X.fs->∃ o',B.get? b=some o':=λb o q hb=>by
  obtain⟨o1,q1⟩:=I.base.there b o q (by rw[D.ex]; simp);refine h12 b o1 q1 ?_;rw[D.stkFrs];intro z;rcases xAo.mp z with z | z
  ·exact neL b o q z
  ·exact hb z
 refine⟨e,t,cls,vs,H',B,rfl,J.os,h3,⟨λb o q n hb _=>f1.1 b o (inB b o q n hb),λb o q n hb _=>?_,λb o q n _=>J.base.free b o q n (by rw[D.ex]; simp),λb o q _=>?_,J.base.tups,J.base.frzs,J.base.tbls⟩,?_,f1,h7.of_slots f2,h8,inB,h10,allB,hE _ _ _ h11⟩
 ·obtain⟨sl,e1⟩:=J.base.slot b o q n hb (by rw[D.ex]; simp)
  obtain⟨L,oL,hL,hn⟩:=(show ∃ L o,L=b/\s'.heap.get? L=some o/\∀ vs,o.data≠.fields vs from by
   obtain⟨_,oo,hoo,hnf⟩:=(J.funs).mem hb;exact⟨b,oo,rfl,hoo,hnf⟩)
  obtain⟨rfl,hn,hnf⟩:L=b/\s'.heap.get? L=some oL/\∀ vs,oL.data≠.fields vs:=⟨hL,hn.1,hn.2⟩;obtain⟨sl',e2⟩:=f2 L oL hn hnf;rw[e1] at hn;cases hn;exact⟨sl',e2⟩
 ·by_cases hb:b∈X.fs
  ·obtain⟨_,o',ho',_⟩:=f1.2.2.1.mem hb;exact⟨o',ho'⟩
  ·obtain⟨o',ho'⟩:=allB b o q hb;exact⟨o',f1.1 b o' ho'⟩
 ·exact h5.inB h6.1 f1.1 h10
end

abbrev aPc:List Value:=[.type "ValueError",.type "Exception",.type "BaseException",.type "object"]
def nA (K:xAb)(C:Addr):Prop:=excIn K C aPc "ValueError.__new__"=true
theorem nA.at {K:xAb}{C:Addr}{h:Heap}(q:nA K C)(X:K.In h):∃ bm N nm qn bs hd sn sub ab col dd k0 k1 k2 k3 k5 mN,
  h.get? C=some (excClassObj nm qn C N bs bm hd sn sub ab col dd k0 k1 k2 k3 k5 "ValueError.__new__")/\h.Ns N mN/\mN "__init__" = none/\OwnTail h aPc bm:=by
 unfold nA excIn at q;cases hl:K.lookup C with
 | none=>rw[hl] at q; cases q
 | some o=>
  rw[hl] at q;split at q
  ·rename_i dd cd sl ho
   cases ho;split at q
   ·rename_i C' bm k0 k1 k2 k3 n k5 hm hs
    rw[xBh,xBh,xBh,xBh,xBh] at q;obtain⟨⟨⟨⟨⟨q1,q2⟩,q3⟩,q4⟩,q5⟩,q6⟩:=q;have e1:C'=C:=by simpa using q1
    have e2:n="ValueError.__new__":=by simpa using q2
    subst e1 e2;obtain⟨nm,bs,mro,ns,qn,hd,sn,sub,ab,col,del⟩:=cd;have e3:del=false:=by simpa using q3
    have em:mro=.ref C'::bm:=hm;subst e3 em
    have es:sl=#[k0,k1,k2,k3,some (.builtin "ValueError.__new__"),k5]:=by
     obtain⟨l⟩:=sl
     have:l=[k0,k1,k2,k3,some (.builtin "ValueError.__new__"),k5]:=hs
     rw[this]
    subst es;exact⟨bm,ns,nm,qn,bs,hd,sn,sub,ab,col,dd,k0,k1,k2,k3,k5,_,X _ _ hl,.of_isNs (isNs_of_in X q5),nsMap_none_of_in X q5 (by simpa using q6),tail_of_in X q4⟩
   ·cases q
  ·cases q
theorem dP.ex {P:Program}{w:World}{H:Hp}{h:Heap}{a:Addr}{o:HO}(x:dP P w H h a o):∃ ob,h.get? a=some ob:=by
 cases o with
 | lst xs=>obtain⟨_,_,_,_,e⟩:=x; exact⟨_,e⟩
 | tup xs=>obtain⟨_,_,_,ob,e,_⟩:=x; exact⟨_,e⟩
 | dK kvs=>obtain⟨_,_,_,_,o,_,_,e,_⟩:=x; exact⟨_,e⟩
 | dT kvs=>obtain⟨_,_,_,_,o,_,_,e,_⟩:=x; exact⟨_,e⟩
 | set S n=>obtain⟨o,_,_,_,e,_⟩:=x; exact⟨_,e⟩
 | ins C dx fs=>obtain⟨_,_,_,e,_⟩:=x; exact⟨_,e⟩
 | own y=>exact x
 | xd fs=>obtain⟨_,⟨_,_,_,e,_⟩,_⟩:=x; exact⟨_,e⟩
 | rng lo hi=>obtain⟨_,_,_,e⟩:=x; exact⟨_,e⟩
 | frz ob u=>obtain⟨e,_⟩:=x; exact⟨_,e⟩
 | tbl ps=>exact⟨_,(show h.get? a=some _ from x)⟩
 | met f y=>exact⟨_,(show h.get? a=some _ from x)⟩
 | ext φ=>obtain⟨_,e,_⟩:=x; exact e
section
variable {X:Cx}{E:XK}
theorem Cx.Body.raised (D:X.Body E){pins:xPn}{σ:St}{H:Hp}{s:Shared}{h':Heap}{e:Addr}{cls:Value}{us:List Value}(I:Inv X pins σ H s)(hx:Heap.MadeExcOf s.heap h' e cls us)(q:E cls none H) :
  X.xe (.ref e) { s with heap:=h' }:=by
 rw[D.xe];have hfr:X.A.frames=some (X.env::X.outer):=by rw[I.ok.frames,D.stk]
 have hin:∀ env∈X.stack,∀ a,env.frame=some a->a∈frs X.stack:=λenv he a ha=>xCd.mpr ⟨env,he,ha⟩
 have hl:s.heap.FunFrames (hideAll s.heap (frs X.stack)) (X.env::X.outer):=by
  have:=funFrames_hide I.stack hin
  rw[D.stk] at this ⊢;exact this
 refine wpAny_leaves_madeW hfr D.frm (λb o q=>xGy _ q) hl hx λh'' t f1 f2 f3 f4=>?_;have neL:∀ b o,X.s₀.heap.get? b=some o->b≠X.env.locals:=λb o q=>xBi (xBc (xAs q) I.ok.above)
 have nfr:∀ b o,X.s₀.heap.get? b=some o->b∉X.fs->b∉frs X.stack:=λb o q hb z=>by
  rw[D.stkFrs] at z;rcases xAo.mp z with z | z
  ·exact neL b o q z
  ·exact hb z
 have nex:∀ b,b∉X.ex:=λb=>by rw[D.ex]; simp
 have inB:∀ b o,X.s₀.heap.get? b=some o->X.H₀ b=none->b∉X.fs->(hideAll s.heap (frs X.stack)).get? b=some o:=λb o q n hb=>
  xFe _ (I.base.keep b o q n hb (nex b)) (nfr b o q hb)
 have trB:∀ b u,H b=some u->∃ o,(hideAll s.heap (frs X.stack)).get? b=some o:=λb u q=>by
  obtain⟨o,ho⟩:=(I.hok b u q).ex;exact⟨o,xFe _ ho λz=>by rw[I.stkFree b z] at q; cases q⟩
 have allB:∀ b o,X.s₀.heap.get? b=some o->b∉X.fs->∃ o',(hideAll s.heap (frs X.stack)).get? b=some o':=λb o q hb=>by
  obtain⟨o1,q1⟩:=I.base.there b o q (nex b);exact⟨o1,xFe _ q1 (nfr b o q hb)⟩
 refine⟨e,t,cls,us,H,_,rfl,I.os,I.bare,⟨λb o q n hb _=>f1.1 b o (inB b o q n hb),λb o q n hb _=>?_,λb o q n _=>I.base.free b o q n (nex b),λb o q _=>?_,I.base.tups,I.base.frzs,I.base.tbls⟩,
  I.hok.inB (λb o q=>xGy _ q) f1.1 trB,f1,f2,f3,inB,trB,allB,q⟩
 ·obtain⟨sl,e1⟩:=I.base.slot b o q n hb (nex b);obtain⟨_,oo,hoo,hnf⟩:=I.funs.mem hb;obtain⟨sl',e2⟩:=f4 b oo (hx.keeps b oo hoo) hnf;rw[e1] at hoo;cases hoo;exact⟨sl',e2⟩
 ·by_cases hb:b∈X.fs
  ·obtain⟨_,o',ho',_⟩:=f1.2.2.1.mem hb;exact⟨o',ho'⟩
  ·obtain⟨o',ho'⟩:=allB b o q hb;exact⟨o',f1.1 b o' ho'⟩
def aQh (E:XK)(c:Value)(t:TA):TS:=λ_ σ H=>t σ H λvs H1=>vs.length<=sizeLine/\E c none H1
theorem eZ {x:Str}{C:Addr}{np cpos pos:Pos}{e₀:Expr}{es:List Expr}{t:TA}(D:X.Body E)(hc:X.calm=true)(hg:Gl X x)(hm:X.mg x=some (.ref C))(hq:nA X.K C)(ha:PA X (e₀::es) t)
  (hs:rE e₀=false:=by rfl)(hpl:(backTo cpos (starEach es X.env)).any (·.1)=false:=by rfl)(hd:(x==("__debug__" : Str))=false:=by decide) :
  PS X (.Raise (some (.Call (.Name x np) (e₀::es) [] cpos)) none pos) (aQh E (.ref C) t):=by
 intro pins s σ H Dn I h;obtain⟨bm,N,nm,qn,bs,hdd,sn,sub,ab,col,dd,k0,k1,k2,k3,k5,mN,hC,hN,hni,T⟩:=hq.at I.mod.kin;have he:starEach (e₀::es) X.env=(false,eval e₀ X.env)::starEach es X.env:=dI hs
 refine wpAny_Raise_call_subT (C:=C) (nm:=nm) (q:=qn) (N:=N) (bs:=bs) (bm:=bm) (hdct:=hdd) (sn:=sn) (sub:=sub) (ab:=ab) (col:=col) (dd:=dd) (k0:=k0) (k1:=k1) (k2:=k2) (k3:=k3) (k5:=k5)
  PySem.F.excBase_ValueError (mN:=mN) (T.hasType PySem.F.excBase_ValueError.hasBase) (I.ok.hd hc) (by rw[he]; exact hpl) hni (jU I hg hm ⟨rfl,?_⟩ hd)
 have ha':=ha cpos pins s σ H _ I h;rw[he] at ha' ⊢;refine xGl (thn ha' λus s1 ⟨vs,H1,I1,r1,hz,q1⟩=>⟨rfl,by rw[<- r1.length]; exact hz,I1.bk _ _ hC,hN.keeps I1.bk,T.keeps I1.bk,λh' e hx=>D.raised I1 hx q1⟩)
end
end L2
namespace L2
open PySem PySem.Spec PySem.Calls PyProof.Rows PySem.W
open PySem.Builtin PySem.Builtin.ObjectAttr PySem.Builtin.Getset_descriptor

section
variable {prog:Program}{w:World}{A:Around}{E:xVP}{s:Shared}{K:Frag}{e C:Addr}
end
end L2
namespace L2
open PySem PySem.Spec PySem.Calls PyProof.Rows PySem.W

section
variable {X:Cx}{pins:xPn}{σ:St}{H:Hp}{s:Shared}
end
section
variable {X:Cx}
end
section
variable {P:Program}{w:World}{K:xAb}{mg:xSO}{base:Heap}
end
section
variable {X:Cx}{k:Nat}{f:Addr}{fd:FuncData}{ps:List Str}{sp:Sp}{x:Str}{e:Expr}{es:List Expr}{t:TA}{p pos:Pos}
end
def qD (mg:xSO)(base:Heap):Prop:=∃ bm ob,mg "__builtins__" = some (.ref bm)/\bm≠builtinsNs/\base.get? bm=some ob/\ob.cls=.type "module" /\ ob.dict=some builtinsNs/\ob.data=.plain
def gU (c:Addr)(q:Str)(h:Heap):Prop:=∃ o vs t,h.get? c=some o/\o.data=.fields vs/\vs[1]?=some (.str q t)
section
variable {X:Cx}{pins:xPn}{σ:St}{H:Hp}{s:Shared}
theorem Inv.lamTab {P c':Addr}{q:Str}{ps more:Array Value}{h':Heap}{t':Nat}(I:Inv X pins σ H s)(hP:H P=some (.tbl ps))(k:Heap.ExtBut P s.heap h')(hn:h'.get? P=some (tabObj (ps++more)))
  (hge:s.heap.objs.size<=c')(hcd:gU c' q h'):Inv X pins σ (upd (upd H P (.tbl (ps++more))) c' (.ext (gU c' q))) { s with heap:=h',toks:=t' }:=by
 have neP:∀ b,H b=none->b≠P:=λb n z=>by rw[z,hP] at n; cases n
 have nec:∀ b o,s.heap.get? b=some o->b≠c':=λb o e=>xBi (xBc (xAs e) hge);have hc0:H c'=none:=I.hok.fresh hge;have cP:c'≠P:=neP c' hc0;have H2:∀ b u,H b=some u->b≠P->upd (upd H P (.tbl (ps++more))) c' (.ext (gU c' q)) b=some u:=λb u e hb=>by rw[aL (aI e hc0),aL hb]; exact e
 refine I.step (g':=s.gens) (d':=s.drawn) (ch:=[]) (λ_ z=>nomatch z) (λb o _ _ _ e n=>k b o (neP b n) e) (λb o _ _ _ e n=>⟨o.slots,k b o (neP b n) e⟩)
  (λb o _ e n=>by rw[aL (nec b o e),aL (neP b n)]; exact n) (λb o _ e=>?_) (λb xs e=>H2 b _ e λz=>by rw[z,hP] at e; cases e) (λb o u e=>H2 b _ e λz=>by rw[z,hP] at e; cases e)
  (λb ps' e=>?_) (λm hm=>hm.extBut k (neP _ I.free)) (λb u e=>?_) I.bare
 ·by_cases hb:b=P
  ·subst hb; exact⟨_,hn⟩
  ·exact⟨o,k b o hb e⟩
 ·by_cases hb:b=P
  ·subst hb;rw[hP] at e;cases e;exact⟨more,by rw[aL (Ne.symm cP),aE]⟩
  ·exact⟨#[],by rw[H2 b _ e hb]; simp⟩
 ·by_cases hb:b=c'
  ·subst hb;rw[aE] at e;cases e;obtain⟨o,vs,t,e1,e2,e3⟩:=id hcd;exact⟨hcd,⟨o,e1⟩,λh1 h2 ⟨o,vs,t,p1,p2,p3⟩ kk=>⟨o,vs,t,kk o p1,p2,p3⟩⟩
  ·rw[aL hb] at e
   by_cases hbP:b=P
   ·subst hbP;rw[aE] at e;cases e;exact hn
   ·rw[aL hbP] at e;refine (I.hok b u e).stay (λd v hd z=>k d v ?_ z) (λd z=>H2 d _ z λy=>by rw[y,hP] at z; cases z) λd xs z=>H2 d _ z λy=>by rw[y,hP] at z; cases z
    rcases hd with rfl | hd
    ·exact hbP
    ·intro y;rw[y,hP] at hd;cases hd
theorem aLl {params:Arguments}{body:Expr}{scope:Scope}{pos:Pos}{c P:Addr}{ps:Array Value}{Q:xVP}{E:xVP}(I:Inv X pins σ H s)(hcode:X.env.code=.ref c)(hc:codeHdIn X.K c P=true)(bm:qD X.mg X.base)
  (hP:H P=some (.tbl ps))(ht:TriplesOk ps.toList)(hnf:codeAmong pos ps.toList=none)(hdef:defaultsOf params X.env=([],[]))(hfr:∀ n∈eW scope,X.env.kindOf n=some .cell\/X.env.kindOf n=some .free)
  (k:∀ (f c':Addr) (pm ctv:Value) (s1:Shared),Inv X pins σ (upd (upd H P (.tbl (ps++#[rawInt pos.line,rawInt pos.col,.ref c']))) c' (.ext (gU c' (X.env.qual++"<lambda>")))) s1->H c'=none->c'≠P->c'<f->s.heap.objs.size<=c' ->
   (∀ b o,b≠P->s.heap.get? b=some o->s1.heap.get? b=some o) ->
   s1.heap.get? f=some (kla_obj "<lambda>" (X.env.qual++"<lambda>") params body scope (gT scope X.env) pm c' ctv)->Q (.ref f) s1) :
  wpAny (model X.prog X.w) X.A (eval (.Lambda params body scope pos) X.env) Q E s:=by
 have hcl:closureFor scope X.env=pure (gT scope X.env):=iJ λn hn=>I.ok.has n (hfr n hn);obtain⟨b,ob,b1,b2,b3,b4,b5,b6⟩:=bm;have hg:s.heap.Ns mainGlobals X.mg:=I.mod.glob.keeps I.bk;have bP:∀ d o,X.base.get? d=some o->d≠P:=λd o e z=>by have:=(I.bs d o e).2; rw[z,hP] at this; cases this
 have hgP:mainGlobals≠P:=by
  obtain⟨o,_,_,e,_⟩:=I.mod.glob;exact bP _ o e
 have hbG:b≠mainGlobals:=λz=>by
  obtain⟨o,es,ep,e,hd,_⟩:=I.mod.glob;rw[z,e] at b3;cases b3;rw[hd] at b6;cases b6
 have hob:s.heap.get? P=some (tabObj ps):=I.hok P _ hP;refine kla_eval hdef (kla_makeFunction (mg:=X.mg) hcl I.ok.glob hg hcode (codeHd_of_K I.kIn hc) hob ht hnf hgP ⟨b,ob,b1,b2,hbG,bP _ _ b3,I.bk _ _ b3,b4,b5,b6⟩ λc' ctv h' tk hx hge hlt hrec htb=>?_);obtain⟨c2,o2,vs2,t2,e2,r1,r2,r3⟩:=hrec;cases e2;have hc0:H c'=none:=I.hok.fresh hge
 refine k h'.objs.size c' _ ctv _ (I.lamTab (t':=tk) hP (λd o hd e=>xAj _ (hx d o hd e)) (xAj _ htb) hge ⟨o2,vs2,t2,xAj _ r1,r2,r3⟩) hc0 (λz=>by rw[z,hP] at hc0; cases hc0) hlt hge
  (λd o hd e=>xAj _ (hx d o hd e)) (xAw _ rfl)
end
structure aAu (h:Heap)(H:Hp)(fr:List Addr)(f c':Addr)(q:Str)(params:Arguments)(body:Expr)(scope:Scope)(cl:List (Str×Addr))(NL:List Str)(σL:St):Prop where
 fn:∃ pm ctv,h.get? f=some (kla_obj "<lambda>" q params body scope cl pm c' ctv)
 fH:H f=none
 ff:f∉fr
 code:H c'=some (.ext (gU c' q))
 inj:∀ x y a,cl.lookup x=some a->cl.lookup y=some a->x=y
 cell:∀ x a,cl.lookup x=some a->(∃ v,h.IsCell a v)/\H a=none/\a∉fr
 val:∀ (i:Nat) x v,NL[i]?=some x->σL[i]?=some (some v)->∃ a u,cl.lookup x=some a/\cO v u/\h.IsCell a (some u)
 len:σL.length=NL.length
section
variable {X:Cx}{q:Str}{scope:Scope}{f c':Addr}{cl:List (Str×Addr)}{H:Hp}{s:Shared}{NL:List Str}{E:XK}
end
section
variable {P:Program}{w:World}{K:Frag}{mg:xSO}{base:Heap}
theorem aSc {CX:CXT}{x qual:Str}{st:Stmt}{f:Addr}{fd:FuncData}{N ps:List Str}{k:Nat}(F:Fun K x qual st f fd)(S:aR N ps (aB st)){A:Around}{outer:List Env}{s:Shared}{H:Hp}{args:Args}{us:List Value}{vs:List V}{Q:VK}{E:XK}
  (hr:cM (k+1) A)(e0:uV P w K mg base A outer s H)(hb:BindsTo s fd args (ps.zip us))(hl:vs.length=ps.length)(r:cH vs us)
  (hbody:∀ cdv,cM k (A.deeper (envOfC qual (aB st) s.heap.objs.size f cdv))->∃ t,PSs (lG CX P w K mg base N qual (aB st) f cdv A outer s H E) (aG st) t/\t { nx:=λ_ H'=>Q .non H',rt:=Q } (jO N vs) H) :
  codeAny (model P w) A (.call (.ref f) args) (CR CX outer P w H s Q E) s:=by
 obtain⟨oc,od,kV,doc,pm,an,cdv,ct,osl,rfl,lk,hcd⟩:=F.ex;have KX:K.In s.heap:=e0.mod.kin.keeps λb o e=>(e0.bs b o e).1;have lim:s.heap.NoLimit:=e0.mod.nolimit.keeps λb o e=>(e0.bs b o e).1
 have hkind:∀ y∈ps.zip us,(aB st).names.lookup y.1=some .local\/((aB st).names.lookup y.1=some .cell/\((cellsFrom (s.heap.objs.size+1) (aB st).names []).lookup y.1).isSome=true):=λ⟨n,v⟩ hy=>by
  rcases S.par n (xGd hy).1 with q | q
  ·exact .inl q
  ·exact .inr ⟨q,cellsFrom_some _ _ _ (.inl q)⟩
 refine xIz hr.depth (KX _ _ lk) rfl S.co S.gen rfl (codeRec_of KX hcd) (hb _ _ _ _ ?_);refine xHv S.kind hkind λenv he s1 x=>?_;subst he;refine⟨lim.keeps x.toInCall.keep,codeAny_func ?_⟩;obtain⟨t,ht,hq⟩:=hbody cdv (hr.deeper _);have I:Inv (lG CX P w K mg base N qual (aB st) f cdv A outer s H E) [] (jO N vs) H s1:=wD S hr.hd e0 hl r x;refine xCr (ht [] s1 (jO N vs) H _ I hq) (λfl s' hs=>?_) λe s' hs=>hs
 have fin:∀ {σ':St}{H':Hp}{v:V}{u:Value},Inv (lG CX P w K mg base N qual (aB st) f cdv A outer s H E) [] σ' H' s'->cO v u->Q v H'->CE outer P w H s Q u s':=
  λ{σ' H' v u} J rv q=>⟨v,H',J.os,J.bare,J.base,J.hok,rv,q⟩
 cases fl with
 | ret u=>obtain⟨v,σ',H',J,rv,q⟩:=hs; exact fin J rv q
 | next=>obtain⟨σ',H',J,q⟩:=hs; exact fin (v:=V.non) (u:=Value.none) J rfl q
 | brk=>obtain⟨_,_,_,q⟩:=hs; exact False.elim q
 | cont=>obtain⟨_,_,_,q⟩:=hs; exact False.elim q
end
section
variable {X:Cx}
end
theorem aGx {P:Program}{w:World}{K:Frag}{mg mb:xSO}{CX:CXT}{k:Nat}{fa a:Addr}{fd:FuncData}{x:Str}{sp:Sp}{s₁:Shared}{vs:List Value}{ns:List Int}{tabs:List (Addr×Addr)}
  (KX:K.In s₁.heap)(hns:s₁.heap.Ns mainGlobals mg)(hb:s₁.heap.Ns builtinsNs mb)(hbb:∀ x:Str,x≠"__name__" -> mb x=bootBuiltins x)(hlim:s₁.heap.NoLimit)(hg:s₁.gens=#[])
  (htab:∀ q∈tabs,codeHdIn K q.1 q.2=true/\K.lookup q.2=none/\s₁.heap.get? q.2=some (tabObj #[]))
  (hbm:∃ bm ob,mg "__builtins__" = some (.ref bm)/\bm≠builtinsNs/\s₁.heap.get? bm=some ob/\ob.cls=.type "module" /\ ob.dict=some builtinsNs/\ob.data=.plain)
  (ha:s₁.heap.get? a=some { cls:=.type "list",data:=.seq vs.toArray })(hi:IntsAre vs ns)(hl:ns.length<=sizeLine)(hr:cM k callerA)
  (F:∀ base:Heap,K.In base->base.Ns mainGlobals mg->qD mg base->aQ P w K mg base CX k fa fd [x] sp)(hbind:∀ (s:Shared) (u:Value),BindsTo s fd ⟨[u],[]⟩ [(x,u)])
  (hsp:∀ H:Hp,(∀ q∈tabs,H q.2=some (.tbl #[]))->SqL K H a (ns.map V.int)->sp [.ref a] H (λv _=>v=.bl true) λ_ _ _=>False)
  (hCX:∀ H e s',CX [] H s₁ (λ_ _ _=>False) e s'->False) :
  codeAny (model P w) callerA (.call (.ref fa) ⟨[.ref a],[]⟩) (λr s'=>r=.ok (.ret (.bool true))/\OldK s₁.heap s'.heap/\s'.os=s₁.os/\AllBare s'.gens) s₁:=by
 have rv:=vG hi;have lenV:=hi.length
 have core:∀ H:Hp,SqL K H a (ns.map V.int)->HOk P w H s₁.heap->(∀ q∈tabs,H q.2=some (.tbl #[]))->(∀ b u,H b=some u->(∃ q∈tabs,b=q.2)\/(b=a/\K.lookup a=none/\∃ o ys,u=.frz o (.lst ys))) ->
   codeAny (model P w) callerA (.call (.ref fa) ⟨[.ref a],[]⟩) (λr s'=>r=.ok (.ret (.bool true))/\OldK s₁.heap s'.heap/\s'.os=s₁.os/\AllBare s'.gens) s₁:=by
  intro H hS hok hT hA
  -- what is tracked is the script or a table
  have noA:∀ {b:Addr}{o:Obj},s₁.heap.get? b=some o->(∀ ws,o.data≠.fields ws)->(∀ ws n,o.data≠.seq ws n)->H b=none:=λ{b o} e d1 d2=>by
   cases z:H b with
   | none=>rfl
   | some u=>
    rcases hA b u z with⟨q,hq,rfl⟩ | ⟨rfl,_⟩
    ·have:=(htab q hq).2.2
     rw[e] at this;cases this;exact xAz rfl (d1 #[])
    ·rw[ha] at e;cases e;exact xAz rfl (d2 vs.toArray 0)
  have nsK:∀ {b:Addr}{m:xSO},s₁.heap.Ns b m->(xT s₁.heap H).Ns b m:=λ{b m} ⟨o,es,ep,e,d,r⟩=>⟨o,es,ep,uD e (noA e (λws z=>by rw[d] at z; cases z) λws n z=>by rw[d] at z; cases z),d,r⟩
  have hKb:K.In (xT s₁.heap H):=λb o e=>uD (KX b o e) (by
   cases z:H b with
   | none=>rfl
   | some u=>
    rcases hA b u z with⟨q,hq,rfl⟩ | ⟨rfl,hk,_⟩
    ·rw[(htab q hq).2.1] at e; cases e
    ·rw[hk] at e; cases e)
  have hM:Mod K mg (xT s₁.heap H):=⟨hKb,nsK hns,⟨mb,nsK hb,hbb⟩,let ⟨mc,h1,h2⟩:=hlim; ⟨mc,nsK h1,h2⟩⟩
  have hB:qD mg (xT s₁.heap H):=by
   obtain⟨bm,ob,b1,b2,b3,b4,b5,b6⟩:=hbm;exact⟨bm,ob,b1,b2,uD b3 (noA b3 (λws z=>by rw[b6] at z; cases z) λws n z=>by rw[b6] at z; cases z),b4,b5,b6⟩
  have e0:uV P w K mg (xT s₁.heap H) callerA [] s₁ H:=⟨rfl,hM,λb o e=>aOa e,Nat.le_of_eq (aHc _ _),trivial,λb hb=>xAz (show b∈([]:List Addr) from hb) (by simp),hok,.of_eq hg⟩
  refine xFi ((F _ hKb (nsK hns) hB).run callerA [] s₁ H ⟨[.ref a],[]⟩ [.ref a] [.ref a] _ _ hr e0 (hbind s₁ (.ref a)) (.cons rfl .nil) (hsp H hT hS)) λr s' h=>?_;cases r with
  | error e=>exact (hCX H e s' h).elim
  | ok fl=>
   cases fl with
   | next=>exact False.elim h
   | brk=>exact False.elim h
   | cont=>exact False.elim h
   | ret u=>
    obtain⟨v,H',os,bare,un,hok',r',q⟩:=h;have q':v=.bl true:=q;subst q';obtain rfl:u=Value.bool true:=r';refine⟨rfl,⟨λb o e=>?_,λb o e=>un.there b o e (by simp)⟩,os,bare⟩;cases z:H b with
    | none=>exact .inl (un.keep b o e z (by intro y; exact xAz (show b∈([]:List Addr) from y) (by simp)) (by simp))
    | some u=>
     rcases hA b u z with⟨q,hq,rfl⟩ | ⟨_,_,ob,ys,rfl⟩
     ·obtain⟨hc,_,hP⟩:=htab q hq;obtain⟨more,z2⟩:=un.tbls q.2 #[] (hT q hq);have e2:s'.heap.get? q.2=some { cls:=.none,data:=.fields (#[]++more) }:=hok' q.2 _ z2;rw[hP] at e;cases e;exact .inr (.inl ⟨((codeHd_of_K KX hc).tab hP).isCodeTable,rfl,#[],more,rfl,e2⟩)
     ·have z2:=un.frzs b ob _ z;obtain⟨e1,_⟩:=hok b _ z;obtain⟨e2,_⟩:=hok' b _ z2;rw[e] at e1;cases e1;exact .inl e2
 have aT:∀ q∈tabs,q.2≠a:=λq hq z=>by
  have:=(htab q hq).2.2
  rw[z,ha] at this;cases this
 cases hk:K.lookup a with
 | some o=>
  have e:=KX a o hk;rw[ha] at e;cases e;refine core (λb=>if b∈tabs.map (·.2) then some (.tbl #[]) else none) (.inr ⟨_,vs.toArray,_,hk,rfl,rfl,rfl,by rw[xBd,lenV]; exact hl,by simpa using rv⟩) (λb u z=>?_) (λq hq=>xAu (List.mem_map_of_mem hq)) λb u z=>?_
  ·by_cases hb:b∈tabs.map (·.2)
   ·have z':=(xAu hb).symm.trans z;cases z';obtain⟨q,hq,rfl⟩:=xAp.mp hb;exact (htab q hq).2.2
   ·have z':=(xAt hb).symm.trans z;cases z'
  ·by_cases hb:b∈tabs.map (·.2)
   ·obtain⟨q,hq,rfl⟩:=xAp.mp hb;exact .inl ⟨q,hq,rfl⟩
   ·have z':=(xAt hb).symm.trans z;cases z'
 | none=>
  refine core (λb=>if b∈tabs.map (·.2) then some (.tbl #[]) else if b=a then some (.frz { cls:=.type "list",data:=.seq vs.toArray } (.lst (ns.map V.int))) else none) ?_ (λb u z=>?_) (λq hq=>xAu (List.mem_map_of_mem hq)) λb u z=>?_
  ·refine .inl (.inr ⟨{ cls:=.type "list",data:=.seq vs.toArray },?_⟩)
   have na:a∉tabs.map (·.2):=λz=>by
    obtain⟨q,hq,e⟩:=xAp.mp z;exact aT q hq e
   exact (xAt na).trans (xAu rfl)
  ·by_cases hb:b∈tabs.map (·.2)
   ·have z':=(xAu hb).symm.trans z;cases z';obtain⟨q,hq,rfl⟩:=xAp.mp hb;exact (htab q hq).2.2
   ·have z':=(xAt hb).symm.trans z
    by_cases hba:b=a
    ·have z'':=(xAu hba).symm.trans z';cases z'';subst hba;exact⟨ha,by rw[xAa]; exact hl,vs,_,rv,ha⟩
    ·have z'':=(xAt hba).symm.trans z';cases z''
  ·by_cases hb:b∈tabs.map (·.2)
   ·obtain⟨q,hq,rfl⟩:=xAp.mp hb;exact .inl ⟨q,hq,rfl⟩
   ·have z':=(xAt hb).symm.trans z
    by_cases hba:b=a
    ·have z'':=(xAu hba).symm.trans z';cases z'';exact .inr ⟨hba,hk,_,_,rfl⟩
    ·have z'':=(xAt hba).symm.trans z';cases z''
theorem walk_ofT {l:OpenLaw}{n k:Nat}{q:Program}{loose:List Str}{XP:(Str->Option Value)->Heap->Prop}{YP:World->Heap->Prop}{d:DefRec}{K:Params->Frag}{sp:World->Sp}{x:Str}(tabs:List (Addr×Addr))
  (hn:l.most=some n)(hn2:n<=sizeLine)(hdf:d.params.defaults=[])(hr:cM k callerA)
  (hY:∀ (w:World) (h:Heap),YP w h->(K w.params).In h/\∀ p∈tabs,h.get? p.2=some (tabObj #[]))
  (hK:∀ (w:World),∀ p∈tabs,codeHdIn (K w.params) p.1 p.2=true/\(K w.params).lookup p.2=none)
  (F:∀ (w:World) (mg:xSO) (fa:Addr) (h:Heap),(K w.params).In h->h.Ns mainGlobals mg->mg d.name=some (.ref fa) ->
   ∃ fd:FuncData,(∀ (s:Shared) (u:Value),BindsTo s fd ⟨[u],[]⟩ [(x,u)]) /\
    ∀ base:Heap,(K w.params).In base->base.Ns mainGlobals mg->qD mg base->aQ l.prog w (K w.params) mg base CX0 k fa fd [x] (sp w))
  (hsp:∀ (w:World) (H:Hp) (a:Addr) (ns:List Int),ns.length<=n->(∀ p∈tabs,H p.2=some (.tbl #[]))->SqL (K w.params) H a (ns.map V.int)->sp w [.ref a] H (λv _=>v=.bl true) λ_ _ _=>False) :
  WalkO q loose XP YP l.row.toRowW d [] (λf vs=>PySem.call f vs):=by
 refine Att.attach_call hn hdf λw s₀ s₁ mg mb fa o pm cd doc a vs ns G Y ho hd hcd hmg hobj hints hlen hg=>?_;obtain⟨KX,hts⟩:=hY w _ Y;obtain⟨fd,hb,hF⟩:=F w mg fa _ KX G.T.g hmg;exact aGx (tabs:=tabs) KX G.T.g G.T.b G.T.builtins G.T.nolimit hg (λp hp=>⟨(hK w p hp).1,(hK w p hp).2,hts p hp⟩) G.T.bmain hobj hints (xAn hlen hn2) hr hF hb (λH hT hS=>hsp w H a ns hlen hT hS) λH e s' z=>z
section
variable {X:Cx}
theorem oG:∀ {ss:List Str}{us:List Value},cH (ss.map V.str) us->StrsAre us ss
 | [],_,r=>by rw[xHk] at r; cases r; exact .nil
 | x::ss,_,r=>by
  rw[xCa] at r;cases r with
  | cons r1 r2=>
   obtain⟨t,rfl⟩:=r1;exact .cons _ _ (oG r2)
theorem qF:∀ {us:List Value}{ss:List Str},StrsAre us ss->cH (ss.map V.str) us
 | _,_,.nil=>.nil
 | _,_,.cons _ t r=>.cons ⟨t,rfl⟩ (qF r)
inductive aOx (K:xAb)(xs:List V)(H:Hp)(Q:VK):Prop
 | mk (a:Addr)(ss:List Str)(h0_:xs=[.ref a])(h1_:SqL K H a (ss.map V.str))(h2_:ss.length<64)(h3_:∀ (p:Addr) (ss':List Str),H p=none->ss'.Perm ss->sortedS ss'=true->Q (.ref p) (upd H p (.lst (ss'.map V.str))))
theorem iU:CallR X (.builtin "sorted") (aOx X.K):=by
 intro pins s σ H xs us Q I r h;obtain⟨a,ss,rfl,hs,h64,q⟩:=h;obtain⟨u,rfl,rx⟩:=jN r;cases rx;obtain⟨its,rv,pl,hz⟩:=I.list hs;have hl:its.length=ss.length:=by rw[<- rv.length,xAa]
 refine sorted_strs pl.isList (oG rv) (by omega) λout ss' a1 a2 a3=>?_;obtain⟨e,he⟩:=sortedAll_at s.heap its out;have hn:H (s.heap.objs.size+1)=none:=I.hok.fresh (xGr _);refine⟨.ref (s.heap.objs.size+1),_,I.laid (t':=s.toks) (λb o z=>sortedAll_old z) (xGr _) ?_,rfl,q _ ss' hn a2 a3⟩;have hl':ss'.length=ss.length:=a2.length_eq;exact⟨by rw[xAa,hl',sizeLine_eq]; omega,out.toList,e,qF a1,he⟩
def aXd:V->Hp->VK->Prop:=λx H Q=>∃ z,x=.str z/\z.length<=sizeLine/\Q (.str z) H
theorem aRg {e:Expr}{te:TE}{pos:Pos}(he:PE X e te):PE X (.FormattedValue e (-1) none pos) (tUn aXd te):=by
 intro pins s σ H Q I h;refine FormattedValue_plain (thn (he pins s σ H _ I h) λv s1 ⟨x,H1,I1,r1,z,e1,hz,q⟩=>?_);subst e1;obtain⟨t,rfl⟩:=r1;exact formatField_str (λt' tk=>⟨.str z,H1,I1.tok tk,⟨_,rfl⟩,q⟩) hz
def aDu:List TE->Str->TE
 | [],out=>λ_ H Q=>out.length<=sizeLine/\Q (.str out) H
 | t::r,out=>λσ H Q=>t σ H λx H1=>∃ y,x=.str y/\(out++y).length<=sizeLine/\aDu r (out++y) σ H1 Q
def PJ (X:Cx)(ps:List (Sem Value))(ts:List TE):Prop:=
 ∀ (out:Str) (pins:xPn) (s:Shared) (σ:St) (H:Hp) (Q:VK),Inv X pins σ H s->aDu ts out σ H Q->wpAny (model X.prog X.w) X.A (joinParts out ps) (EP X pins σ Q) X.xe s
theorem aJh:PJ X [] []:=λout pins s σ H Q I ⟨hz,q⟩=>joinParts_nil ⟨.str out,H,I.tok _,⟨_,rfl⟩,q⟩ hz
theorem pI {e:Expr}{te:TE}{ps:List (Sem Value)}{ts:List TE}(he:PE X e te)(hr:PJ X ps ts):PJ X (eval e X.env::ps) (te::ts):=by
 intro out pins s σ H Q I h;refine joinParts_cons (thn (he pins s σ H _ I h) λv s1 ⟨x,H1,I1,r1,y,e1,hz,q⟩=>?_);subst e1;obtain⟨t,rfl⟩:=r1;exact⟨hz,hr _ pins s1 σ H1 Q I1 q⟩
theorem zH {a b c:Expr}{ta tb tc:TE}{pos:Pos}(ha:PE X a ta)(hb:PE X b tb)(hc:PE X c tc):PE X (.JoinedStr [a,b,c] pos) (aDu [ta,tb,tc] Str.empty):=by
 intro pins s σ H Q I h;exact JoinedStr_many ((pI ha (pI hb (pI hc aJh))) Str.empty pins s σ H Q I h)
end
def Ite (K:Frag)(a:Addr):It:=
 ⟨λi H=>∃ xs x,SqL K H a xs/\xs[i]?=some x,λi H y H'=>∃ (t:Addr) (x:V),H t=none/\y=.ref t/\H'=upd H t (.tup [.int i,x])/\∀ xs,SqL K H a xs->xs[i]?=some x,λi H=>∃ xs,SqL K H a xs/\xs.length<=i⟩
theorem aFh {P:Program}{w:World}{K:Frag}{elts:List Expr}{x1:Nat}{tpos:Pos}(a e it:Addr)(hne:e≠it) :
  aAr P w K (.Tuple elts x1 tpos) (Ite K a) [e,it] e (λi h=>(∃ old,IsEnum h e it i old)/\h.IsListIter it a i) where
 mem:=by simp
 obj:=λi h st b hb=>by
  obtain⟨⟨old,h1⟩,o,h2,c,d⟩:=st;rcases xAo.mp hb with rfl | hb
  ·exact⟨_,h1,λv z=>by cases z⟩
  ·have e':b=it:=by simpa using hb
   subst e';exact⟨o,h2,λv z=>by rw[d] at z; cases z⟩
 keep:=λi h h' st k=>by
  obtain⟨⟨old,h1⟩,h2⟩:=st;exact⟨⟨old,k e (by simp) _ h1⟩,h2.at λo z=>k it (by simp) o z⟩
 item:=by
  intro X hP hw hK hc i pins s σ H E I hf st hg;subst hP hw hK;obtain⟨xs,x,hq,hx⟩:=hg;obtain⟨its,rv,p,hz⟩:=I.list hq;obtain⟨u,hu,ru⟩:=rv.get hx;obtain⟨⟨old,he⟩,hit⟩:=st;have fe:=hf e (by simp);have fi:=hf it (by simp);refine wpAny_pyNext_enum_item he hit p.isList (x:=u) (by simpa using hu) hne λh1 eo hit1 htup hsz hk=>⟨.ref s.heap.objs.size,rfl,wpAny_letOwnedTupleGo_enum eo λh2 en sb=>?_⟩;have hn:H s.heap.objs.size=none:=I.hok.fresh (xAl _);have nes:e≠s.heap.objs.size:=xBi (xAs he);have kp:∀ b o,b≠e->b≠it->s.heap.get? b=some o->h2.get? b=some o:=λb o n1 n2 z=>(sb.2 b n1).trans (hk b o n1 n2 z);have nH:∀ b v,H b=some v->b≠e/\b≠it:=λb v z=>⟨λy=>(by rw[y,fe.1] at z; cases z),λy=>(by rw[y,fi.1] at z; cases z)⟩;have nS:∀ b v,H b=some v->b≠s.heap.objs.size:=λb v z=>aI z hn
  have I2:Inv X pins σ (upd H s.heap.objs.size (.tup [.int i,x])) { s with heap:=h2,toks:=s.toks+1 }:=by
   refine I.step (g':=s.gens) (d':=s.drawn) (ch:=[e,it]) (λb hb=>?_) (λb o _ _ hc z _=>kp b o (λy=>hc (by simp[y])) (λy=>hc (by simp[y])) z) (λb o _ _ hc z _=>⟨o.slots,kp b o (λy=>hc (by simp[y])) (λy=>hc (by simp[y])) z⟩)
    (λb o _ z n=>by rw[aL (xBi (xAs z))]; exact n) (λb o hc z=>⟨o,kp b o (λy=>hc (by simp[y])) (λy=>hc (by simp[y])) z⟩) (λb ys z=>by rw[aL (nS b _ z)]; exact z) (λb o v z=>by rw[aL (nS b _ z)]; exact z)
    (λb ps z=>⟨#[],by rw[aL (nS b _ z),z]; simp⟩) (λm hm=>?_) (λb v z=>?_) I.bare
   ·rcases xAo.mp hb with rfl | hb
    ·exact⟨fe.2.2.2.1,fe.2.1,fe.2.2.2.2.1,fe.2.2.2.2.2⟩
    ·have e':b=it:=by simpa using hb
     subst e';exact⟨fi.2.2.2.1,fi.2.1,fi.2.2.2.2.1,fi.2.2.2.2.2⟩
   ·obtain⟨o,es,ep,ho,r⟩:=hm;exact⟨o,es,ep,kp _ o (Ne.symm fe.2.1) (Ne.symm fi.2.1) ho,r⟩
   ·by_cases hb:b=s.heap.objs.size
    ·subst hb;rw[aE] at z;cases z;exact⟨by show 2<=sizeLine; decide,[.int i s.toks,u],.cons ⟨_,rfl⟩ (.cons ru .nil),⟨_,(sb.2 _ (Ne.symm nes)).trans htup,rfl,_,rfl⟩⟩
    ·rw[aL hb] at z;refine (I.hok b v z).stay (λc y hc q=>kp c y ?_ ?_ q) (λc q=>by rw[aL (nS c _ q)]; exact q) λc ys q=>by rw[aL (nS c _ q)]; exact q
     ·rcases hc with rfl | hc
      ·exact (nH c v z).1
      ·exact (nH c _ hc).1
     ·rcases hc with rfl | hc
      ·exact (nH c v z).2
      ·exact (nH c _ hc).2
  refine⟨.ref s.heap.objs.size,_,I2,rfl,⟨s.heap.objs.size,x,hn,rfl,rfl,λys hy=>by rw[I.list_inj hy hq]; exact hx⟩,⟨⟨u,en⟩,?_⟩,λb hb=>?_⟩
  ·obtain⟨o,z,c,d⟩:=hit1;exact⟨o,(sb.2 it (Ne.symm hne)).trans z,c,d⟩
  ·rw[aL ?_]
   ·exact (hf b hb).1
   ·rcases xAo.mp hb with rfl | hb
    ·exact nes
    ·have e':b=it:=by simpa using hb
     subst e';obtain⟨o,z,_⟩:=hit;exact xBi (xAs z)
 done:=by
  intro X hP hw hK hc i pins s σ H E I hf st hg;subst hP hw hK;obtain⟨xs,hq,hlen⟩:=hg;obtain⟨its,rv,p,hz⟩:=I.list hq;obtain⟨⟨old,he⟩,hit⟩:=st;have fi:=hf it (by simp);have hl:=rv.length
  have hn:its.toArray[i]?=none:=by
   rw[xEv];exact xCl.mpr (by omega)
  exact wpAny_pyNext_enum_end (I.ok.hd hc) he hit p.isList hn λh' ext=>⟨rfl,I.turned (t':=s.toks) (λb o hb z=>ext b o hb z) fi.1 fi.2.1 fi.2.2.2.1 fi.2.2.2.2.1 fi.2.2.2.2.2⟩
 self:=λ_ i s _ _ ⟨⟨_,h1⟩,_⟩ h=>wpAny_pyIter_enum h1 h
section
variable {X:Cx}{elts:List Expr}{x1:Nat}{tpos:Pos}
inductive aYi (K:Frag)(vs:List V)(H1:Hp)(R:It->Hp->Prop):Prop
 | mk (a:Addr)(h1:vs=[.ref a])(h2:∃ xs,SqL K H1 a xs)(r:R (Ite K a) H1)
def aUk (K:Frag)(ta:TA):TI:=λσ H R=>ta σ H λvs H1=>aYi K vs H1 R
theorem kY {l:Expr}{ta:TA}{p pos:Pos}(hg:Gl X "enumerate")(hm:X.mg "enumerate" = none)(ha:PA X [l] ta)(hs:rE l=false:=by rfl):PI X (.Tuple elts x1 tpos) (.Call (.Name "enumerate" p) [l] [] pos) (aUk X.K ta):=by
 intro pins s σ H R I h;have he:starEach [l] X.env=[(false,eval l X.env)]:=dI hs;refine Call_ (oN I hg hm Bo.enumerate (xEd (thn (ha pos pins s σ H _ I h) λus s1 ⟨vs,H1,I1,r1,a,e1,⟨xs,hq⟩,q⟩=>?_) he rfl));subst e1;obtain⟨u,rfl,rx⟩:=jN r1;cases rx;obtain⟨its,rv,pl,hz⟩:=I1.list hq;refine call_enumerate_list pl.isList λh' h1 h2 h3 h4=>?_;have I2:Inv X pins σ H1 { s1 with heap:=h' }:=I1.kept (t':=s1.toks) h4;refine wpAny_pyIter_enum h1 ⟨s1.heap.objs.size+1,[s1.heap.objs.size+1,s1.heap.objs.size],_,Ite X.K a,H1,rfl,I2,aFh a _ _ (Nat.succ_ne_self _),⟨⟨_,h1⟩,h2⟩,λb hb=>?_,q⟩
 have hge:s1.heap.objs.size<=b:=by
  rcases xAo.mp hb with rfl | hb
  ·exact xGr _
  ·have e':b=s1.heap.objs.size:=by simpa using hb
   rw[e'];exact xAl _
 exact I1.fpOk hge (I1.hok.fresh hge)
theorem pX {K:Frag}{a D:Addr}{xs:List V}{g:TG}{tc:TT}{te:TE}{R:Hp->Prop}{σ:St}{H:Hp}(Pv:Nat->St->Hp->Prop)(h0:Pv 0 σ H)
  (hl:∀ i σ H,i<=xs.length->Pv i σ H->SqL K H a xs)
  (hs:∀ i x σ H t,xs[i]?=some x->Pv i σ H->H t=none->g (.ref t) σ (upd H t (.tup [.int i,x])) λσ2 H2=>tc σ2 H2 λb H3=>if b=true then te σ2 H3 λy H4=>∃ ys,H4 D=some (.lst ys)/\ys.length<sizeLine/\Pv (i+1) σ2 (upd H4 D (.lst (ys++[y]))) else Pv (i+1) σ2 H3)
  (hd:∀ σ H,Pv xs.length σ H->R H):yH (Ite K a) D g tc te R σ H:=by
 refine⟨λi m σ H=>m=xs.length-i/\i<=xs.length/\Pv i σ H,⟨xs.length,by simp,xBr _,h0⟩,?_⟩;rintro i m σ H ⟨rfl,hi,p⟩;have q:=hl i σ H hi p
 by_cases hlt:i<xs.length
 ·refine .inr ⟨⟨xs,xs[i],q,by simp[hlt]⟩,Pv (i+1),λσ' H' p'=>⟨xs.length-(i+1),by omega,rfl,hlt,p'⟩,λx H' y=>?_⟩;obtain⟨t,v,ht,rfl,rfl,hv⟩:=y;exact hs i v σ H t (hv xs q) p ht
 ·have e:i=xs.length:=by omega
  subst e;exact .inl ⟨⟨xs,q,xAl _⟩,hd σ H p⟩
theorem uG {K:Frag}{a:Addr}{xs:List V}{g:TG}{tb:TS}{D:uW}{σ:St}{H:Hp}(Pv:Nat->St->Hp->Prop)(h0:Pv 0 σ H)(hl:∀ i σ H,i<=xs.length->Pv i σ H->SqL K H a xs)
  (hs:∀ i x σ H t,xs[i]?=some x->Pv i σ H->H t=none->g (.ref t) σ (upd H t (.tup [.int i,x])) λσ2 H2=>tb { D with nx:=Pv (i+1),ct:=Pv (i+1),bk:=D.nx } σ2 H2)(hd:∀ σ H,Pv xs.length σ H->D.nx σ H) :
  ∃ W:Nat->Nat->St->Hp->Prop,(∃ m,W 0 m σ H)/\∀ i m σ H,W i m σ H ->
   ((Ite K a).stop i H/\D.nx σ H)\/((Ite K a).go i H/\∃ N:St->Hp->Prop,(∀ σ' H',N σ' H'->∃ m',m'<m/\W (i+1) m' σ' H')/\∀ x H',(Ite K a).yld i H x H'->g x σ H' λσ2 H2=>tb { D with nx:=N,ct:=N,bk:=D.nx } σ2 H2):=by
 refine⟨λi m σ H=>m=xs.length-i/\i<=xs.length/\Pv i σ H,⟨xs.length,by simp,xBr _,h0⟩,?_⟩;rintro i m σ H ⟨rfl,hi,p⟩;have q:=hl i σ H hi p
 by_cases hlt:i<xs.length
 ·refine .inr ⟨⟨xs,xs[i],q,by simp[hlt]⟩,Pv (i+1),λσ' H' p'=>⟨xs.length-(i+1),by omega,rfl,hlt,p'⟩,λx H' y=>?_⟩;obtain⟨t,v,ht,rfl,rfl,hv⟩:=y;exact hs i v σ H t (hv xs q) p ht
 ·have e:i=xs.length:=by omega
  subst e;exact .inl ⟨⟨xs,q,xAl _⟩,hd σ H p⟩
end
section
variable {X:Cx}
theorem aOh {k:Key}{v:Value}(h:rV k v=true):cO (kV k) v:=by
 rcases dW h with⟨i,t,rfl,rfl⟩ | ⟨x,t,rfl,rfl⟩
 ·exact⟨t,rfl⟩
 ·exact⟨t,rfl⟩
theorem wA:∀ {kvs:List (Key×V)}{vs:List (Key×Value)}{us:List Value},KV kvs vs->us.length=vs.length->(∀ (j:Nat) (u:Value),us[j]?=some u->∃ k x,vs[j]?=some (k,x)/\rV k u=true)->cH (kvs.map λkv=>kV kv.1) us
 | [],_,us,r,hl,_=>by
  unfold KV at r;cases r
  have:us=[]:=xIi.mp hl
  subst this;exact .nil
 | p::kvs,_,us,r,hl,h=>by
  unfold KV at r;cases r with
  | @cons a b as bs h1 h2=>
   cases us with
   | nil=>simp at hl
   | cons u us=>
    refine .cons ?_ (wA (vs:=bs) h2 (by simpa using hl) λj v e=>?_)
    ·obtain⟨k,x,e1,e2⟩:=h 0 u rfl;have e1:some b=some (k,x):=e1;cases e1;show cO (kV p.1) u;rw[show p.1=k from h1.1]
     exact aOh e2
    ·obtain⟨k,x,e1,e2⟩:=h (j+1) v (by simpa using e);exact⟨k,x,by simpa using e1,e2⟩
theorem pF {α:Type} [DecidableEq α]:∀ (xs ys:List α),xs.length=ys.length->((List.range xs.length).all λj=>decide (xs[j]?=ys[j]?))=decide (xs=ys):=by
 intro xs ys hl;rw[xDc,xBj,xDx];constructor
 ·intro h;refine xHg λi=>?_
  by_cases hi:i<xs.length
  ·exact xAg (h i (xCh.mpr hi))
  ·rw[xCl.mpr (by omega),xCl.mpr (by omega)]
 ·rintro rfl j _;exact xAk rfl
theorem vJ {A:Around}{s:Shared}{ss ts:List Str}{us ws:List Value}(r:cH (ss.map V.str) us)(r':cH (ts.map V.str) ws)(hl:ss.length=ts.length) :
  ∀ j (h1:j<us.toArray.size) (h2:j<ws.toArray.size),SeqAt.EqAt A s us.toArray[j] ws.toArray[j] (decide (ss[j]?=ts[j]?)):=by
 intro j h1 h2;have l1:=r.length;have l2:=r'.length;rw[xAa] at l1 l2;have g1:j<ss.length:=by rw[l1]; simpa using h1
 have g2:j<ts.length:=by rw[l2]; simpa using h2
 obtain⟨u,e1,q1⟩:=r.get (i:=j) (x:=.str ss[j]) (by simp[g1]);obtain⟨v,e2,q2⟩:=r'.get (i:=j) (x:=.str ts[j]) (by simp[g2]);obtain⟨t,rfl⟩:=q1;obtain⟨t',rfl⟩:=q2
 have f1:us.toArray[j]=.str ss[j] t:=by
  have:us[j]?=some us.toArray[j]:=by simp
  rw[e1] at this;exact (xBt this).symm
 have f2:ws.toArray[j]=.str ts[j] t':=by
  have:ws[j]?=some ws.toArray[j]:=by simp
  rw[e2] at this;exact (xBt this).symm
 rw[f1,f2];have eb:decide (ss[j]?=ts[j]?)=decide (ss[j]=ts[j]):=by simp[g1,g2]
 rw[eb];intro prog w E Q hq;exact wpAny_eqBool_str hq
inductive aPp (K:Frag)(neg:Bool)(x:V)(y:V)(H:Hp)(Q:VK):Prop
 | mk (a b:Addr)(ss ts:List Str)(h0_:x=.ref a)(h1_:y=.ref b)(h2_:SqL K H a (ss.map V.str))(h3_:SqL K H b (ts.map V.str))(h4_:Q (.bl (if neg then !decide (ss=ts) else decide (ss=ts))) H)
theorem aNr (hu:X.A.units<cLine):OpR X (compareOp .Eq) (aPp X.K false):=by
 intro pins s σ H x y v u Q I rx ry h;obtain⟨a,b,ss,ts,rfl,rfl,ha,hb,q⟩:=h;cases rx;cases ry;obtain⟨us,r1,p1,_⟩:=I.list ha;obtain⟨ws,r2,p2,_⟩:=I.list hb;have l1:=r1.length;have l2:=r2.length;rw[xAa] at l1 l2
 by_cases hl:ss.length=ts.length
 ·refine SeqAt.eq_listAt p1.isList p2.isList (by simp; omega) hu (vJ r1 r2 hl) ⟨.bl (decide (ss=ts)),H,I,?_,q⟩;rw[xBd,<- l1,pF ss ts hl];rfl
 ·refine SeqAt.eq_list_lengthsAt p1.isList p2.isList (by simp; omega) hu ⟨.bl (decide (ss=ts)),H,I,?_,q⟩;rw[xBb λz=>hl (by rw[z])];rfl
theorem aNq (hu:X.A.units<cLine):OpR X (compareOp .NotEq) (aPp X.K true):=by
 intro pins s σ H x y v u Q I rx ry h;obtain⟨a,b,ss,ts,rfl,rfl,ha,hb,q⟩:=h;cases rx;cases ry;obtain⟨us,r1,p1,_⟩:=I.list ha;obtain⟨ws,r2,p2,_⟩:=I.list hb;have l1:=r1.length;have l2:=r2.length;rw[xAa] at l1 l2
 by_cases hl:ss.length=ts.length
 ·refine SeqAt.RcNeAt.lists p1.isList p2.isList (by simp; omega) hu (vJ r1 r2 hl) X.prog X.w X.xe _ ⟨.bl (!decide (ss=ts)),H,I,?_,q⟩;rw[xBd,<- l1,pF ss ts hl];rfl
 ·refine SeqAt.RcNeAt.lists_lengths p1.isList p2.isList (by simp; omega) hu X.prog X.w X.xe _ ⟨.bl (!decide (ss=ts)),H,I,?_,q⟩;rw[xBb λz=>hl (by rw[z])];rfl
end
section
variable {X:Cx}
inductive aOy (xs:List V)(H:Hp)(Q:VK):Prop
 | mk (d:Addr)(kvs:List (Key×V))(ss:List Str)(h0_:xs=[.ref d])(h1_:H d=some (.dK kvs))(h2_:kvs.map (λkv=>kV kv.1)=ss.map V.str)(h3_:ss.length<64)(h4_:∀ (p:Addr) (ss':List Str),H p=none->ss'.Perm ss->sortedS ss'=true->Q (.ref p) (upd H p (.lst (ss'.map V.str))))
theorem iV (hc:X.calm=true):CallR X (.builtin "sorted") aOy:=by
 intro pins s σ H xs us Q I r h;obtain⟨d,kvs,ss,rfl,hd,hks,h64,q⟩:=h;obtain⟨u,rfl,rx⟩:=jN r;cases rx;obtain⟨hz,lo,vs,rel,dd⟩:=aQa I.hok hd;obtain⟨ep,hat⟩:=dd.dictAt;have hl:kvs.length=vs.length:=Paired.length rel
 have hls:kvs.length=ss.length:=by
  have:=congrArg List.length hks
  simpa using this
 refine call_function_entry kind_sorted plain_sorted entry_sorted (args_sorted1 _) ?_;unfold Builtin.«sorted»;refine xAc (m:=checkCount "sorted" 1 1 _) (xAq ?_);refine xAc (kdu_collect (A:=X.A.in1) (kdl_dict (knd:=dS X.prog X.w) (kvs:=vs) (ep:=ep) lo) (I.ok.hd hc) hat (by omega) λh' tk acc hk hacc=>?_);have hal:acc.toList.length=vs.length:=by rw[xDd]; exact hacc.1
 have rv:cH (ss.map V.str) acc.toList:=by
  rw[<- hks];exact wA rel hal λj v e=>hacc.2 j v (by rw[<- xEf]; exact e)
 have hS:=oG rv;refine xAc (wpAny_newList ?_ (by rw[hal]; omega));have hoL:(h'.push (seqObj "list" acc.toList.toArray 0)).get? h'.objs.size=some (seqObj "list" acc.toList.toArray 0):=xAw _ rfl;refine xAc (xFb (xDs slot_list_sort ⟨_,hoL,rfl⟩ entry_list_sort (list_sort_treeK strKind_oneLt hoL hS.keysOf (λv₁ v₂ rest e=>keyKind_strs (by rw[<- e]; exact hS)) (by rw[hal]; omega) λst' a1 a2=>⟨_,rfl,?_⟩) (args_list_sort _)));obtain⟨ss',b1,b2,b3⟩:=sorted_out_str hS a1 a2;refine xAq ⟨_,rfl,?_⟩;have I1:Inv X pins σ H { s with heap:=h',toks:=tk }:=I.kept (t':=tk) hk;have hn:H h'.objs.size=none:=I1.hok.fresh (xAl _);obtain⟨e,he⟩:=sortedHeap_at (vs:=acc.toList) (out:=(arrOf st').map (·.2)) hoL;refine⟨.ref h'.objs.size,_,I1.laid (t':=tk) (λb o z=>?_) (xAl _) ?_,rfl,q _ ss' hn b2 b3⟩
 ·have hb:b<h'.objs.size:=xAs z;rw[sortedHeap_old (xBi hb) (by rw[size_push']; exact Nat.lt_succ_of_lt hb)];exact xAj _ z
 ·exact⟨by rw[xAa,b2.length_eq,sizeLine_eq]; omega,_,e,qF b1,he⟩
end
section
variable {X:Cx}{pins:xPn}{σ:St}{H:Hp}{s:Shared}{d:Addr}{kvs:List (Key×V)}
theorem Inv.freeze (I:Inv X pins σ H s)(e:H d=some (.dK kvs)):∃ o,Inv X pins σ (upd H d (.frz o (.dK kvs))) s:=by
 have hO:=I.hok d _ e;obtain⟨o,ho⟩:=hO.ex
 have ne:∀ b u,H b=some u->(∀ k,u≠.dK k)->(upd H d (.frz o (.dK kvs))) b=some u:=λb u z n=>by
  rw[aL (λy=>by rw[y,e] at z; cases z; exact n kvs rfl)];exact z
 refine⟨o,I.step (h':=s.heap) (g':=s.gens) (d':=s.drawn) (t':=s.toks) (ch:=[]) (λb hb=>nomatch hb) (λb u _ _ _ z _=>z) (λb u _ _ _ z _=>⟨u.slots,z⟩)
  (λb u _ _ n=>by rw[aL (λy=>by rw[y,e] at n; cases n)]; exact n) (λb u _ z=>⟨u,z⟩) (λb xs z=>ne b _ z λk y=>by cases y) (λb u v z=>ne b _ z λk y=>by cases y)
  (λb ps z=>⟨#[],by rw[ne b _ z λk y=>by cases y]; simp⟩) (λm hm=>hm) (λb u z=>?_) I.bare⟩
 by_cases hb:b=d
 ·subst hb;rw[aE] at z;cases z;exact⟨ho,hO⟩
 ·rw[aL hb] at z;exact (I.hok b u z).stay (λc y _ q=>q) (λc q=>ne c _ q λk y=>by cases y) λc ys q=>ne c _ q λk y=>by cases y
inductive aYh (v:V)(H':Hp)(Q:VK):Prop
 | mk (d:Addr)(kvs:List (Key×V))(h1:v=.ref d)(h2:H' d=some (.dK kvs))(q:∀ o,Q v (upd H' d (.frz o (.dK kvs))))
def aMu (t:TE):TE:=λσ H Q=>t σ H λv H'=>aYh v H' Q
theorem aFt {e:Expr}{t:TE}(h:PE X e t):PE X e (aMu t):=by
 intro pins s σ H Q I q;refine thn (h pins s σ H _ I q) λv s1 ⟨x,H1,I1,r1,d,kvs,e1,e2,q1⟩=>?_;obtain⟨o,I2⟩:=I1.freeze e2;exact⟨x,_,I2,r1,q1 o⟩
end
section
variable {X:Cx}{tg:Expr}
end
section
variable {X:Cx}
end
section
variable {X:Cx}{pins:xPn}{σ:St}{H:Hp}{s:Shared}
theorem aOg {params:Arguments}{body:Expr}{scope:Scope}{pos:Pos}{c c' P:Addr}{ps:Array Value}{Q:xVP}{E:xVP}(I:Inv X pins σ H s)(hcode:X.env.code=.ref c)(hc:codeHdIn X.K c P=true)(bm:qD X.mg X.base)
  (hP:H P=some (.tbl ps))(ht:TriplesOk ps.toList)(hf:codeAmong pos ps.toList=some (.ref c'))(hdef:defaultsOf params X.env=([],[]))(hfr:∀ n∈eW scope,X.env.kindOf n=some .cell\/X.env.kindOf n=some .free)
  (k:∀ (f:Addr) (pm ctv:Value) (s1:Shared),Inv X pins σ H s1->s.heap.objs.size<=f->(∀ b o,s.heap.get? b=some o->s1.heap.get? b=some o) ->
   s1.heap.get? f=some (kla_obj "<lambda>" (X.env.qual++"<lambda>") params body scope (gT scope X.env) pm c' ctv)->Q (.ref f) s1) :
  wpAny (model X.prog X.w) X.A (eval (.Lambda params body scope pos) X.env) Q E s:=by
 have hcl:closureFor scope X.env=pure (gT scope X.env):=iJ λn hn=>I.ok.has n (hfr n hn);obtain⟨b,ob,b1,b2,b3,b4,b5,b6⟩:=bm;have hg:s.heap.Ns mainGlobals X.mg:=I.mod.glob.keeps I.bk;have bP:∀ d o,X.base.get? d=some o->d≠P:=λd o e z=>by have:=(I.bs d o e).2; rw[z,hP] at this; cases this
 have hbG:b≠mainGlobals:=λz=>by
  obtain⟨o,es,ep,e,hd,_⟩:=I.mod.glob;rw[z,e] at b3;cases b3;rw[hd] at b6;cases b6
 have hob:s.heap.get? P=some (tabObj ps):=I.hok P _ hP;refine kla_eval hdef (kla_makeFunctionHit (mg:=X.mg) hcl I.ok.glob hg hcode (codeHd_of_K I.kIn hc) hob ht hf ⟨b,ob,b1,b2,hbG,bP _ _ b3,I.bk _ _ b3,b4,b5,b6⟩ λctv h' tk hx hge=>?_);exact k h'.objs.size _ ctv _ (I.kept (t':=tk) λd o e=>xAj _ (hx d o e)) hge (λd o e=>xAj _ (hx d o e)) (xAw _ rfl)
end
section
variable {X:Cx}

end
def unl:List Str->List Str->List Str
 | [],k=>k
 | z::r,k=>unl r (if z∈k then k else k++[z])
theorem nd1 (y:Str):[y].Nodup:=xDb.mpr ⟨λh=>(nomatch h),.nil⟩
theorem aDs:∀ (r k:List Str) (z:Str),z∈unl r k↔z∈k\/z∈r
 | [],k,z=>by simp[unl]
 | y::r,k,z=>by
  show z∈unl r _↔_;rw[aDs r]
  by_cases h:y∈k
  ·rw[xAu h,xAo];exact⟨λq=>q.imp id .inr,λq=>q.elim .inl λq=>q.elim (λe=>.inl (e▸h)) .inr⟩
  ·rw[xAt h,xAo,xBy,xAi,or_assoc]
theorem nC:∀ (r k:List Str),k.Nodup->(unl r k).Nodup
 | [],k,h=>h
 | y::r,k,h=>by
  refine nC r _ ?_
  by_cases q:y∈k
  ·rw[xAu q]; exact h
  ·rw[xAt q];exact xHf.mpr ⟨h,nd1 _,λa ha b hb e=>q (by rw[<- xAi.mp hb,<- e]; exact ha)⟩
section
variable {prog:Program}{w:World}{A:Around}{E:xVP}{s:Shared}
end
section
variable {M:Model}{A:Around}{E:xVP}{s:Shared}{α:Type}
end
section
variable {prog:Program}{w:World}
variable {A:Around}{R:Result->Shared->Prop}{It:Addr}{fp wr:List Addr}{G:Array GenState->Array GenState->Prop}{n:Nat}{Pv:Nat->Value->Prop}{St':Nat->Shared->Prop}
end
section
variable {prog:Program}{w:World}{A:Around}{E:xVP}{s:Shared}
set_option maxHeartbeats 6000000 in
set_option maxHeartbeats 6000000 in
end
section
variable {prog:Program}{w:World}{A:Around}{E:xVP}{s:Shared}
end
section
variable {prog:Program}{w:World}{A:Around}{E:xVP}{s:Shared}
theorem lU {α:Type} [DecidableEq α]:∀ {l m:List α},l.Nodup->(∀ x∈l,x∈m)->m.length<=l.length->l.Perm m
 | [],[],_,_,_=>.nil
 | [],_::_,_,_,h=>xAz h (by simp)
 | a::l,m,hn,hs,hl=>by
  obtain⟨ha,hn⟩:=xDb.mp hn;have hm:a∈m:=hs a (.head _);have p:=List.perm_cons_erase hm;refine ((lU (l:=l) (m:=m.erase a) hn (λx hx=>?_) ?_).cons a).trans p.symm
  ·have:=p.mem_iff.mp (hs x (.tail _ hx))
   rcases xAo.mp this with e | e
   ·exact xAz (e▸hx) ha
   ·exact e
  ·rw[xFr hm];simp at hl;omega
end
section
variable {X:Cx}
theorem aMy {us:List Value}{ss:List Str}(r:cH (ss.map V.str) us)(i:Nat)(v:Value)(h:us.toArray[i]?=some v):∃ z t,ss[i]?=some z/\v=.str z t:=by
 rw[xEv] at h
 induction ss generalizing us i with
 | nil=>cases r; cases h
 | cons z ss ih=>
  cases r with
  | cons r1 r2=>
   cases i with
   | zero=>
    obtain⟨t,rfl⟩:=r1;cases h;exact⟨z,t,rfl,rfl⟩
   | succ i=>exact ih r2 i (by simpa using h)
end
section
variable {prog:Program}{w:World}{M:Model}{A:Around}{E:xVP}{s:Shared}{K:Frag}{x C:Addr}{ox:Obj}{od:Option Obj}
theorem aFb {name:Str}{id:String}{args:List Value}{Q:xOP}(X:K.In s.heap)(I:InstAt s.heap x ox C od)(hs:findIn K (.ref C) name=some (some (.builtin id)))
  (hb:∀ self,bindSpecial (.builtin id) self=pure (.builtin id,[self]))(h:wpAny M A (call (.builtin id) (.ref x::args)) (λv=>Q (some v)) E s):wpAny M A (callSpecialIfBound? (.ref x) name args) Q E s:=by
 simp only[callSpecialIfBound?,bindSpecialIfBound?];refine xFb (xAc (xAc (xAc (I.type.here ((looks_findIn X hs).here ?_)))));refine xAc (wpAny_askSetting (wpAny_ite ?_));have fin:wpAny M A (call (.builtin id) ([.ref x]++args)>>=λv=>pure (some v)) Q E s:=xAc (xCr h (λv s' h'=>xAq h') λ_ _ h'=>h');split
 ·exact xAc ((Looks.of_pure (hb _)).here (xAq (by exact fin)))
 ·exact xGn (xAc ((Looks.of_pure (hb _)).here (xAq (by exact fin))))
structure aAt (K:Frag)(C:Addr):Prop where
 eq:findIn K (.ref C) "__eq__" = some (some (.builtin "object.__eq__"))
 ne:findIn K (.ref C) "__ne__" = some (some (.builtin "object.__ne__"))
 mr:mroIn K C (.type "object")=some true
theorem aCl (N:aAt K C)(X:K.In s.heap)(I:InstAt s.heap x ox C od)(hu:A.units<cLine){Q:Fin->Shared->Prop}(hq:Q (.done (.ret (.bool false))) s):wpAny (model prog w) A (Builtin.«object.__ne__» ⟨[.ref x,.ref x],[]⟩) Q E s:=by
 unfold Builtin.«object.__ne__»;refine xAc (m:=slotArgs "__ne__" 1 _) (xAq ?_);dsimp only;refine xAc (wpAny_cRoomFor hu ?_);refine xAc (aFb X I N.eq PySem.F.cmp_object.eq.bind (xFn (xGk PySem.F.cmp_object.eq.plain PySem.F.cmpEntry_eq (check_slot PySem.F.cmpKind_eq PySem.F.cmpSplit_eq (I.type.andThen (looks_mroIn X N.mr)) (PySem.F.cmpArgs_eq _ _) (objEq_entry_same ?_)))));exact xAc (xCj (xAq hq))
theorem aOb (N:aAt K C)(X:K.In s.heap)(I:InstAt s.heap x ox C od)(hu:A.units+1<cLine){Q:xVP}(hq:Q (.bool false) s):wpAny (model prog w) A (compareOp .NotEq (.ref x) (.ref x)) Q E s:=by
 have hu0:A.units<cLine:=xHd hu;show wpAny _ _ (richCompare .NotEq (.ref x) (.ref x)) _ _ _
 have one:wpAny (model prog w) A (tryCompare (.ref x) (Str.ofString "__ne__") (.ref x)) (λr s'=>∃ v,r=some v/\Q v s') E s:=by
  unfold tryCompare;refine xAc (aFb X I N.ne PySem.F.cmp_object.ne.bind (xFn (xGk PySem.F.cmp_object.ne.plain PySem.F.cmpEntry_ne (check_slot PySem.F.cmpKind_ne PySem.F.cmpSplit_ne (I.type.andThen (looks_mroIn X N.mr)) (PySem.F.cmpArgs_ne _ _) (aCl (A:=A.in1) N X I hu ?_)))));exact xAq ⟨_,rfl,hq⟩
 simp only[richCompare,cmpInfo_NotEq,oneThing_ref];refine xFb (xAc (wpAny_cRoomFor hu0 ?_));refine xAc (I.type.here (xAc (I.type.here ?_)));rw[xAt (by simp)];refine xAc (xAq ?_);simp only[Bool.false_eq_true,if_false];refine xAc (xCr one (λr s' z=>?_) λ_ _ e=>e);obtain⟨v,rfl,hq⟩:=z;exact xAq hq
end
section
variable {X:Cx}
inductive aRb (K:xAb)(x y:V)(H:Hp)(Q:VK):Prop
 | mk (a C dx:Addr)(fs:List (Str×V))(h0_:x=.ref a)(h1_:y=.ref a)(h2_:H a=some (.ins C dx fs))(h3_:aAt K C)(h4_:Q (.bl false) H)
theorem zL (hu:X.A.units+1<cLine):OpR X (compareOp .NotEq) (aRb X.K):=by
 intro pins s σ H x y v u Q I rx ry h;obtain⟨a,C,dx,fs,rfl,rfl,ha,N,q⟩:=h;cases rx;cases ry;obtain⟨mA,O,_⟩:=nO I.hok ha;obtain⟨od,J,_⟩:=O.look;exact aOb N I.kIn J hu ⟨.bl false,H,I,rfl,q⟩
end
end L2
namespace L2
open PySem PySem.Spec PySem.Calls PyProof.Rows PySem.W
open PySem.AutoSeq1 (wpAny_loadPart')
structure Src (P:Program)(w:World)(it l:Addr)(st:Nat->Heap->Prop)(bk:Array Value->Heap->Prop):Prop where
 one:∀ {A:Around}{E:xVP}{s:Shared}{k:Nat}{us:Array Value}{x:Value}{Q:xVP},st k s.heap->bk us s.heap->us[k]?=some x ->
  (∀ h',st (k+1) h'->Heap.SameBut it s.heap h'->Q x { s with heap:=h' })->wpAny (model P w) A (Builtin.SmallTypes.nextOf (.ref it)) Q E s
 out:∀ {A:Around}{E:xVP}{s:Shared}{k:Nat}{us:Array Value}{Q:xVP},A.handled=none->st k s.heap->bk us s.heap->us[k]?=none ->
  (∀ h' e,Heap.ExtBut it s.heap h'->(∃ o,h'.get? e=some o/\o.cls=.type "StopIteration")->E (.ref e) { s with heap:=h' })->wpAny (model P w) A (Builtin.SmallTypes.nextOf (.ref it)) Q E s
 kp:∀ {k:Nat}{h h':Heap},st k h->(∀ o,h.get? it=some o->h'.get? it=some o)->st k h'
 bp:∀ {us:Array Value}{h h':Heap},bk us h->(∀ o,h.get? l=some o->h'.get? l=some o)->bk us h'
 ob:∀ {k:Nat}{h:Heap},st k h->∃ o vs,h.get? it=some o/\o.data=.fields vs
section
variable {P:Program}{w:World}
theorem aIi (it l:Addr):Src P w it l (λk h=>h.IsListIter it l k) (λus h=>h.IsList l us):=
 ⟨λh1 h2 hx q=>wpAny_nextOf_list_item h1 h2 hx q,λhh h1 h2 hx q=>wpAny_nextOf_list_end hh h1 h2 hx q,λh k=>h.at k,λh k=>h.at k,λ⟨o,e,_,d⟩=>⟨o,_,e,d⟩⟩
section
variable {A:Around}{E:xVP}{s:Shared}
theorem aMs {it t:Addr}{k:Nat}{us:Array Value}{x:Value}{Q:xVP}(h1:s.heap.IsTupleIter it t k)(h2:s.heap.IsTuple t us)(hx:us[k]?=some x)
  (q:∀ h',h'.IsTupleIter it t (k+1)->Heap.SameBut it s.heap h'->Q x { s with heap:=h' }):wpAny (model P w) A (Builtin.SmallTypes.nextOf (.ref it)) Q E s:=by
 obtain⟨o,e,c,d⟩:=id h1;obtain⟨ot,et,_,n,dt⟩:=h2;unfold Builtin.SmallTypes.nextOf;refine xAc (wpAny_callSpecial?_slot (name:=Str.ofString "__next__") h1.typeIs xDi (xDs xDi h1.typeIs xGz ?_ (xGv _)));show wpAny _ _ (field (.ref it) 0>>=_) _ E s;refine xAc (xDg e d (x:=.ref t) rfl ?_);show wpAny _ _ (if (Value.ref t==Value.none)=true then _ else _) _ E s
 rw[xAt (c:=(Value.ref t==Value.none)=true) λz=>xAv z];show wpAny _ _ (field (.ref it) 1>>=_) _ E s;refine xAc (xDg e d (x:=.int k 0) rfl ?_);show wpAny _ _ (seqItems? (.ref t)>>=_) _ E s;refine xAc (xCx et dt ?_);simp only[hx,Int.toNat_natCast];refine xAc (xGo e d (by simp) (xAq ⟨x,rfl,xAq (q _ ⟨_,xEx _ e (Obj.isFreed_of_fields (Obj.data_mapFields d _)),(Obj.cls_mapFields ..).trans c,?_⟩ (xFh ..))⟩));rw[Obj.data_mapFields d];simp[rawInt]
theorem aMr {it t:Addr}{k:Nat}{us:Array Value}{Q:xVP}(hh:A.handled=none)(h1:s.heap.IsTupleIter it t k)(h2:s.heap.IsTuple t us)(hx:us[k]?=none)
  (q:∀ h' e,Heap.ExtBut it s.heap h'->(∃ o,h'.get? e=some o/\o.cls=.type "StopIteration")->E (.ref e) { s with heap:=h' }):wpAny (model P w) A (Builtin.SmallTypes.nextOf (.ref it)) Q E s:=by
 obtain⟨o,e,c,d⟩:=id h1;obtain⟨ot,et,_,n,dt⟩:=h2;unfold Builtin.SmallTypes.nextOf;refine xAc (wpAny_callSpecial?_slot (name:=Str.ofString "__next__") h1.typeIs xDi (xDs xDi h1.typeIs xGz ?_ (xGv _)));show wpAny _ _ (field (.ref it) 0>>=_) _ E s;refine xAc (xDg e d (x:=.ref t) rfl ?_);show wpAny _ _ (if (Value.ref t==Value.none)=true then _ else _) _ E s
 rw[xAt (c:=(Value.ref t==Value.none)=true) λz=>xAv z];show wpAny _ _ (field (.ref it) 1>>=_) _ E s;refine xAc (xDg e d (x:=.int k 0) rfl ?_);show wpAny _ _ (seqItems? (.ref t)>>=_) _ E s;refine xAc (xCx et dt ?_);simp only[hx,Int.toNat_natCast];refine xAc (xHb (xAc (xGo e d (by simp) ?_)));show wpAny _ _ (newExc (.type "StopIteration") []>>=_) _ E _;refine xAc ?_;simp only[newTuple,newExc];refine xAc (xCz (xAc (m:=firstArgMember _ _) (xHr (a:=Value.none) (by first | rfl | (simp only[firstArgMember]; rfl)) (xCz ?_ (by size_fits)))) (by size_fits));simp only[raiseNew];refine xAc (wpAny_handled ?_)
 first | rw[show A.in1.handled=none from hh] | rw[hh]
 exact xAc (xAq (wpAny_throw (q _ _ (((xFh ..).extBut.push _).push _) ⟨_,xAw _ rfl,rfl⟩)))
theorem aNa (it t:Addr):Src P w it t (λk h=>h.IsTupleIter it t k) (λus h=>h.IsTuple t us):=
 ⟨λh1 h2 hx q=>aMs h1 h2 hx q,λhh h1 h2 hx q=>aMr hh h1 h2 hx q,λh k=>h.at k,λ⟨o,e,r⟩ k=>⟨o,k o e,r⟩,λ⟨o,e,_,d⟩=>⟨o,_,e,d⟩⟩
variable {z ti to i1 i2 l1 l2:Addr}{st1 st2:Nat->Heap->Prop}{bk1 bk2:Array Value->Heap->Prop}{k:Nat}{us vs:Array Value}{a b x y:Value}
theorem aMq {Q:xVP}(S1:Src P w i1 l1 st1 bk1)(S2:Src P w i2 l2 st2 bk2)(D:ZipApart z ti to i1 i2 l1 l2)(hz:IsZip s.heap z ti to .none)(hti:IsPair s.heap ti (.ref i1) (.ref i2))(hto:IsPair s.heap to a b)
  (h1:st1 k s.heap)(h2:st2 k s.heap)(b1:bk1 us s.heap)(b2:bk2 vs s.heap)(hx:us[k]?=some x)(hy:vs[k]?=some y)
  (hQ:∀ h',IsZip h' z ti to (rawInt s.heap.objs.size)->IsPair h' to x y->st1 (k+1) h'->st2 (k+1) h'->IsPair h' s.heap.objs.size x y->h'.objs.size=s.heap.objs.size+1 ->
   (∀ c o,c≠z->c≠to->c≠i1->c≠i2->s.heap.get? c=some o->h'.get? c=some o)->Q (.ref s.heap.objs.size) { s with heap:=h' }) :
  wpAny (model P w) A (Builtin.«zip.__next__» ⟨[.ref z],[]⟩) (λfin s'=>∃ v,fin=.done (.ret v)/\Q v s') E s:=by
 show wpAny _ _ (field (.ref z) 2>>=_) _ E s;refine xAc (xDg hz rfl (x:=.bool false) rfl (show wpAny _ _ (field (.ref z) 3>>=_) _ E s from xAc (xDg hz rfl (x:=.ref ti) rfl (xAc (xCx hti rfl ?_)))))
 show wpAny _ _ (Builtin.SmallTypes.ownedTupleIsFree (.ref z)>>=_) _ E s;refine xAc ?_;unfold Builtin.SmallTypes.ownedTupleIsFree;refine xAc (xDg hz rfl (x:=.none) rfl (xAq ?_));simp only[if_true];refine xAc (xHb (xAc (xDg hz rfl (x:=.ref to) rfl (xAc (xDw hz (by simp) λg1 z1 c1=>?_)))));replace z1:IsZip g1 z ti to .ellipsis:=z1;refine xAc ?_;simp only[List.forIn_cons,List.forIn_nil,List.zipIdx_nil,List.zipIdx_cons];refine xAc (xAc (xGx (show wpAny _ _ (Builtin.SmallTypes.nextOf (.ref i1)>>=_) _ _ _ from xAc (S1.one (S1.kp h1 λo e=>c1.extBut _ _ D.i1z e) (S1.bp b1 λo e=>c1.extBut _ _ D.l1z e) hx λg2 h12 c2=>xAq ?_))))
 have t2:IsPair g2 to a b:=c2.extBut _ _ D.TOi1 (c1.extBut _ _ D.TOz hto);refine xAc (xCx t2 rfl (xAc (xGj t2 λg3 t3 c3=>xAc (xFd (xAq ?_)))));replace t3:IsPair g3 to x b:=t3
 refine xAc (xAc (xGx (show wpAny _ _ (Builtin.SmallTypes.nextOf (.ref i2)>>=_) _ _ _ from xAc (S2.one (S2.kp h2 λo e=>c3.extBut _ _ D.TOi2.symm (c2.extBut _ _ D.i12.symm (c1.extBut _ _ D.i2z e)))
  (S2.bp b2 λo e=>c3.extBut _ _ D.l2TO (c2.extBut _ _ D.l2i1 (c1.extBut _ _ D.l2z e))) hy λg4 h24 c4=>xAq ?_))))
 have t4:IsPair g4 to x b:=c4.extBut _ _ D.TOi2 t3;refine xAc (xCx t4 rfl (xAc (xGj t4 λg5 t5 c5=>xAc (xFd (xAq (xAq ?_))))));replace t5:IsPair g5 to x y:=t5;refine xAc (xCx t5 rfl (xAc (wpAny_newTuple ?_)));have sz:g5.objs.size=s.heap.objs.size:=by rw[c5.1,c4.1,c3.1,c2.1,c1.1]
 have z5:IsZip g5 z ti to .ellipsis:=c5.extBut _ _ D.TOz.symm (c4.extBut _ _ D.i2z.symm (c3.extBut _ _ D.TOz.symm (c2.extBut _ _ D.i1z.symm z1)));have k5:∀ c o,c≠z->c≠to->c≠i1->c≠i2->s.heap.get? c=some o->g5.get? c=some o:=λc o n1 n2 n3 n4 e=>c5.extBut _ _ n2 (c4.extBut _ _ n4 (c3.extBut _ _ n2 (c2.extBut _ _ n3 (c1.extBut _ _ n1 e))));have h15:st1 (k+1) g5:=S1.kp h12 λo e=>c5.extBut _ _ D.TOi1.symm (c4.extBut _ _ D.i12 (c3.extBut _ _ D.TOi1.symm e));have h25:st2 (k+1) g5:=S2.kp h24 λo e=>c5.extBut _ _ D.TOi2.symm e;show wpAny _ _ (Builtin.SmallTypes.ownedTupleHandOut (.ref z) (.ref g5.objs.size)>>=_) _ E _;refine xAc ?_;unfold Builtin.SmallTypes.ownedTupleHandOut;have z6:IsZip (g5.push { cls:=.type "tuple",data:=.seq #[x,y] }) z ti to .ellipsis:=xAj _ z5;refine xAc (xDw z6 (by simp) λg7 z7 c7=>xDw (show IsZip g7 z ti to (rawInt g5.objs.size) from z7) (by simp) λg8 z8 c8=>?_)
 replace z8:IsZip g8 z ti to (rawInt g5.objs.size):=z8;have up:∀ c o,c≠z->g5.get? c=some o->g8.get? c=some o:=λc o n e=>c8.extBut _ _ n (c7.extBut _ _ n (xAj _ e));have lz:=xAs z5;have t8:IsPair g8 g5.objs.size x y:=c8.extBut _ _ (xGc lz) (c7.extBut _ _ (xGc lz) (xAw _ rfl));have s8:g8.objs.size=g5.objs.size+1:=by rw[c8.1,c7.1,xDu]
 rw[sz] at z8 t8 s8;refine xAq ⟨_,rfl,?_⟩;show Q (.ref g5.objs.size) _;rw[sz];exact hQ g8 z8 (up _ _ D.TOz t5) (S1.kp h15 λo e=>up _ o D.i1z e) (S2.kp h25 λo e=>up _ o D.i2z e) t8 s8 λc o n1 n2 n3 n4 e=>up c o n1 (k5 c o n1 n2 n3 n4 e)
theorem aMp {Q:Fin->Shared->Prop}(hh:A.handled=none)(S1:Src P w i1 l1 st1 bk1)(S2:Src P w i2 l2 st2 bk2)(D:ZipApart z ti to i1 i2 l1 l2)(hz:IsZip s.heap z ti to .none)(hti:IsPair s.heap ti (.ref i1) (.ref i2))(hto:IsPair s.heap to a b)
  (h1:st1 k s.heap)(h2:st2 k s.heap)(b1:bk1 us s.heap)(b2:bk2 vs s.heap)(he:us[k]?=none\/vs[k]?=none)
  (hE:∀ h' e,(∀ c o,c≠z->c≠to->c≠i1->c≠i2->s.heap.get? c=some o->h'.get? c=some o)->(∃ o,h'.get? e=some o/\o.cls=.type "StopIteration")->E (.ref e) { s with heap:=h' }) :
  wpAny (model P w) A (Builtin.«zip.__next__» ⟨[.ref z],[]⟩) Q E s:=by
 show wpAny _ _ (field (.ref z) 2>>=_) _ E s;refine xAc (xDg hz rfl (x:=.bool false) rfl (show wpAny _ _ (field (.ref z) 3>>=_) _ E s from xAc (xDg hz rfl (x:=.ref ti) rfl (xAc (xCx hti rfl ?_)))))
 show wpAny _ _ (Builtin.SmallTypes.ownedTupleIsFree (.ref z)>>=_) _ E s;refine xAc ?_;unfold Builtin.SmallTypes.ownedTupleIsFree;refine xAc (xDg hz rfl (x:=.none) rfl (xAq ?_));simp only[if_true];refine xAc (xHb (xAc (xDg hz rfl (x:=.ref to) rfl (xAc (xDw hz (by simp) λg1 z1 c1=>?_)))));replace z1:IsZip g1 z ti to .ellipsis:=z1;refine xAc ?_;simp only[List.forIn_cons,List.forIn_nil,List.zipIdx_nil,List.zipIdx_cons];refine xAc (xAc (xGx ?_));show wpAny _ _ (Builtin.SmallTypes.nextOf (.ref i1)>>=_) _ _ _;have h1':=S1.kp h1 λo e=>c1.extBut _ _ D.i1z e;have b1':=S1.bp b1 λo e=>c1.extBut _ _ D.l1z e;cases hx:us[k]? with
 | none=>
  refine xAc (S1.out hh h1' b1' hx λg2 e c2 ⟨oe,ho,hc⟩=>?_);have z2:IsZip g2 z ti to .ellipsis:=c2 _ _ D.i1z.symm z1;have nz:e≠z:=λq=>by rw[q,z2] at ho; cases ho; simp at hc
  exact xDw z2 (by simp) λg3 _ c3=>hE g3 e (λc o n1 _ n3 _ q=>c3.extBut _ _ n1 (c2 _ _ n3 (c1.extBut _ _ n1 q))) ⟨oe,c3.extBut _ _ nz ho,hc⟩
 | some x=>
  have hy:vs[k]?=none:=he.resolve_left λq=>by rw[hx] at q; cases q
  refine xAc (S1.one h1' b1' hx λg2 h12 c2=>xAq ?_);have t2:IsPair g2 to a b:=c2.extBut _ _ D.TOi1 (c1.extBut _ _ D.TOz hto);refine xAc (xCx t2 rfl (xAc (xGj t2 λg3 t3 c3=>xAc (xFd (xAq (xAc (xAc (xGx ?_))))))));show wpAny _ _ (Builtin.SmallTypes.nextOf (.ref i2)>>=_) _ _ _;refine xAc (S2.out hh (S2.kp h2 λo e=>c3.extBut _ _ D.TOi2.symm (c2.extBut _ _ D.i12.symm (c1.extBut _ _ D.i2z e))) (S2.bp b2 λo e=>c3.extBut _ _ D.l2TO (c2.extBut _ _ D.l2i1 (c1.extBut _ _ D.l2z e))) hy λg4 e c4 ⟨oe,ho,hc⟩=>?_);have z4:IsZip g4 z ti to .ellipsis:=c4 _ _ D.i2z.symm (c3.extBut _ _ D.TOz.symm (c2.extBut _ _ D.i1z.symm z1));have nz:e≠z:=λq=>by rw[q,z4] at ho; cases ho; simp at hc
  exact xDw z4 (by simp) λg5 _ c5=>hE g5 e (λc o n1 n2 n3 n4 q=>c5.extBut _ _ n1 (c4 _ _ n4 (c3.extBut _ _ n2 (c2.extBut _ _ n3 (c1.extBut _ _ n1 q))))) ⟨oe,c5.extBut _ _ nz ho,hc⟩
theorem aKy {Q:xOP}(S1:Src P w i1 l1 st1 bk1)(S2:Src P w i2 l2 st2 bk2)(D:ZipApart z ti to i1 i2 l1 l2)(hz:IsZip s.heap z ti to .none)(hti:IsPair s.heap ti (.ref i1) (.ref i2))(hto:IsPair s.heap to a b)
  (h1:st1 k s.heap)(h2:st2 k s.heap)(b1:bk1 us s.heap)(b2:bk2 vs s.heap)(hx:us[k]?=some x)(hy:vs[k]?=some y)
  (hQ:∀ h',IsZip h' z ti to (rawInt s.heap.objs.size)->IsPair h' to x y->st1 (k+1) h'->st2 (k+1) h'->IsPair h' s.heap.objs.size x y->h'.objs.size=s.heap.objs.size+1 ->
   (∀ c o,c≠z->c≠to->c≠i1->c≠i2->s.heap.get? c=some o->h'.get? c=some o)->Q (some (.ref s.heap.objs.size)) { s with heap:=h' }):wpAny (model P w) A (pyNext (.ref z)) Q E s:=by
 have hT:s.TypeIs (.ref z) "zip":=⟨_,hz,rfl⟩;unfold pyNext;exact xAc (xId (wpAny_callSpecial?_slot (name:=Str.ofString "__next__") hT xEs (xDs xEs hT xIq (aMq S1 S2 D hz hti hto h1 h2 b1 b2 hx hy λh' a1 a2 a3 a4 a5 a6 a7=>xAq (hQ h' a1 a2 a3 a4 a5 a6 a7)) (xIg _))))
theorem aJn {Q:xOP}(hh:A.handled=none)(S1:Src P w i1 l1 st1 bk1)(S2:Src P w i2 l2 st2 bk2)(D:ZipApart z ti to i1 i2 l1 l2)(hz:IsZip s.heap z ti to .none)(hti:IsPair s.heap ti (.ref i1) (.ref i2))(hto:IsPair s.heap to a b)
  (h1:st1 k s.heap)(h2:st2 k s.heap)(b1:bk1 us s.heap)(b2:bk2 vs s.heap)(he:us[k]?=none\/vs[k]?=none)
  (hQ:∀ h',(∀ c o,c≠z->c≠to->c≠i1->c≠i2->s.heap.get? c=some o->h'.get? c=some o)->Q none { s with heap:=h' }):wpAny (model P w) A (pyNext (.ref z)) Q E s:=by
 have hT:s.TypeIs (.ref z) "zip":=⟨_,hz,rfl⟩;unfold pyNext;refine xAc (xId (wpAny_callSpecial?_slot (name:=Str.ofString "__next__") hT xEs (xDs xEs hT xIq (aMp hh S1 S2 D hz hti hto h1 h2 b1 b2 he λh' e hk ⟨o,ho,hc⟩=>?_) (xIg _))));exact xAc (wpAny_isInstance (T:="StopIteration") (b:=true) ⟨o,ho,hc⟩ isSubtype_stop (xAq (hQ _ hk)))
end
end
end L2
namespace L2
open PySem PySem.Spec PySem.Calls PyProof.Rows PySem.W
abbrev wM (n:String)(l:Addr):Obj:={ cls:=.type n,data:=.fields #[.ref l,.int 0 0] }
abbrev zg2 (h:Heap)(o1 o2:Obj):Heap:=(h.push o1).push o2
abbrev zg3 (h:Heap)(o1 o2:Obj):Heap:=(zg2 h o1 o2).push { cls:=.type "tuple",data:=.seq #[.ref h.objs.size,.ref (h.push o1).objs.size] }
abbrev zg4 (h:Heap)(o1 o2:Obj):Heap:=(zg3 h o1 o2).push { cls:=.type "tuple",data:=.seq #[.none,.none] }
abbrev zg5 (h:Heap)(o1 o2:Obj):Heap:=(zg4 h o1 o2).push { cls:=.type "zip",data:=.fields #[.none,.bool false,.bool false,.ref (zg2 h o1 o2).objs.size,.ref (zg3 h o1 o2).objs.size] }
theorem aAb (l t:Addr)(xs ys:Array Value):Meets (Builtin.«zip.__new__» ⟨[.type "zip",.ref l,.ref t],[]⟩) (λ_ R s=>s.heap.IsList l xs/\s.heap.IsTuple t ys /\
  R (.ok (.ret (.ref (zg4 s.heap (wM "list_iterator" l) (wM "tuple_iterator" t)).objs.size))) { s with heap:=zg5 s.heap (wM "list_iterator" l) (wM "tuple_iterator" t) }):=
 .of_wp λprog w A R s h=>by
  obtain⟨hp,g,d,tk,os⟩:=s;obtain⟨h1,h2,h⟩:=h;have hsub:=sub_zip;have j1:Heap.IsList (Shared.heap ⟨hp,g,d,tk,os⟩) l xs:=h1;have j2:Heap.IsTuple (Shared.heap ⟨hp.push { cls:=.type "list_iterator",data:=.fields #[.ref l,.int 0 0] },g,d,tk,os⟩) t ys:=Heap.IsTuple.push h2 _
  wp_walk using xFm j1,wpAny_pyIter_tuple j2
  exact⟨_,rfl,h⟩
section
variable {P:Program}{w:World}{A:Around}{E:xVP}{s:Shared}
theorem aAv {l1 l2:Addr}{o1 o2:Obj}{Pre:Shared->Prop}{Q:xVP}(c1:o1.isFreed=false)(c2:o2.isFreed=false)
  (M:Meets (Builtin.«zip.__new__» ⟨[.type "zip",.ref l1,.ref l2],[]⟩) (λ_ R s=>Pre s/\R (.ok (.ret (.ref (zg4 s.heap o1 o2).objs.size))) { s with heap:=zg5 s.heap o1 o2 }))(hp:Pre s)
  (q:∀ h',IsZip h' (s.heap.objs.size+4) (s.heap.objs.size+2) (s.heap.objs.size+3) .none->IsPair h' (s.heap.objs.size+2) (.ref s.heap.objs.size) (.ref (s.heap.objs.size+1))->IsPair h' (s.heap.objs.size+3) .none .none ->
   h'.get? s.heap.objs.size=some o1->h'.get? (s.heap.objs.size+1)=some o2->(∀ c o,s.heap.get? c=some o->h'.get? c=some o)->Q (.ref (s.heap.objs.size+4)) { s with heap:=h' }) :
  wpAny (model P w) A (call (.type "zip") [.ref l1,.ref l2]) Q E s:=by
 refine callType_new PySem.F.called_zip (by decide) (PySem.F.typeCall_zip_2 _ _) (PySem.F.newCall_zip_2 _ _) (λobj=>PySem.F.args_object_init_3 obj _ _) PySem.F.entry_zip_new M ⟨hp,?_⟩;have z1:(s.heap.push o1).objs.size=s.heap.objs.size+1:=xDu ..;have z2:(zg2 s.heap o1 o2).objs.size=s.heap.objs.size+2:=by rw[xDu,z1]
 have z3:(zg3 s.heap o1 o2).objs.size=s.heap.objs.size+3:=by rw[xDu,z2]
 have z4:(zg4 s.heap o1 o2).objs.size=s.heap.objs.size+4:=by rw[xDu,z3]
 have g5:(zg5 s.heap o1 o2).get? (zg4 s.heap o1 o2).objs.size=some _:=xAw _ rfl;have up4:∀ {c o},(zg4 s.heap o1 o2).get? c=some o->(zg5 s.heap o1 o2).get? c=some o:=λe=>xAj _ e;have g4:(zg4 s.heap o1 o2).get? (zg3 s.heap o1 o2).objs.size=some _:=xAw _ rfl;have up3:∀ {c o},(zg3 s.heap o1 o2).get? c=some o->(zg5 s.heap o1 o2).get? c=some o:=λe=>up4 (xAj _ e);have g3:(zg3 s.heap o1 o2).get? (zg2 s.heap o1 o2).objs.size=some _:=xAw _ rfl;have up2:∀ {c o},(zg2 s.heap o1 o2).get? c=some o->(zg5 s.heap o1 o2).get? c=some o:=λe=>up3 (xAj _ e);have g2:(zg2 s.heap o1 o2).get? (s.heap.push o1).objs.size=some o2:=xAw _ c2;have g1:(s.heap.push o1).get? s.heap.objs.size=some o1:=xAw _ c1;have a5:=g5;have a4:=up4 g4;have a3:=up3 g3;have a2:=up2 g2;have a1:=up2 (xAj o2 g1);show _/\_;rw[z2,z3,z4] at a5;rw[z3] at a4;rw[z1,z2] at a3;rw[z1] at a2;rw[z4];exact⟨⟨_,a5,rfl⟩,q _ a5 a3 a4 a1 a2 λc o e=>up2 (xAj _ (xAj _ e))⟩
end
def Itz (R1 R2:Hp->List V->Prop):It:=
 ⟨λi H=>∃ xs ys x y,R1 H xs/\R2 H ys/\xs[i]?=some x/\ys[i]?=some y,
   λi H v H'=>∃ (t:Addr) (x y:V),H t=none/\v=.ref t/\H'=upd H t (.tup [x,y])/\(∀ xs,R1 H xs->xs[i]?=some x)/\∀ ys,R2 H ys->ys[i]?=some y,
   λi H=>∃ xs ys,R1 H xs/\R2 H ys/\(xs.length<=i\/ys.length<=i)⟩
structure Rdz (P:Program)(w:World)(K:Frag)(R:Hp->List V->Prop)(bk:Array Value->Heap->Prop):Prop where
 rd:∀ {X:Cx}{pins:xPn}{s:Shared}{σ:St}{H:Hp}{xs:List V},X.prog=P->X.w=w->X.K=K->Inv X pins σ H s->R H xs->(∃ its:List Value,cH xs its/\bk its.toArray s.heap)/\∀ ys,R H ys->ys=xs
theorem aNj {P:Program}{w:World}{K:Frag}(a:Addr):Rdz P w K (λH xs=>SqL K H a xs) (λus h=>h.IsList a us):=⟨λhP hw hK I h=>by
 subst hP hw hK;obtain⟨its,r,p,_⟩:=I.list h;exact⟨⟨its,r,p.isList⟩,λys hy=>I.list_inj hy h⟩⟩
theorem aRa {P:Program}{w:World}{K:Frag}(a:Addr):Rdz P w K (λH xs=>SqT K H a xs) (λus h=>h.IsTuple a us):=⟨λhP hw hK I h=>by
 subst hP hw hK;obtain⟨its,r,p,_⟩:=I.tuple h;exact⟨⟨its,r,p⟩,λys hy=>I.tuple_inj hy h⟩⟩
theorem aId {P:Program}{w:World}{K:Frag}{elts:List Expr}{x1:Nat}{tpos:Pos}{z ti to i1 i2 l1 l2:Addr}{st1 st2:Nat->Heap->Prop}{bk1 bk2:Array Value->Heap->Prop}{R1 R2:Hp->List V->Prop}
  (S1:Src P w i1 l1 st1 bk1)(S2:Src P w i2 l2 st2 bk2)(D1:Rdz P w K R1 bk1)(D2:Rdz P w K R2 bk2)(D:ZipApart z ti to i1 i2 l1 l2) :
  aAr P w K (.Tuple elts x1 tpos) (Itz R1 R2) [z,ti,to,i1,i2] z (λi h=>IsZip h z ti to .none/\IsPair h ti (.ref i1) (.ref i2)/\(∃ a b,IsPair h to a b)/\st1 i h/\st2 i h) where
 mem:=by simp
 obj:=λi h st b hb=>by
  obtain⟨h1,h2,⟨a,b',h3⟩,h4,h5⟩:=st;obtain⟨o4,v4,e4,d4⟩:=S1.ob h4;obtain⟨o5,v5,e5,d5⟩:=S2.ob h5;simp only[List.mem_cons,List.not_mem_nil,or_false] at hb;rcases hb with rfl | rfl | rfl | rfl | rfl
  ·exact⟨_,h1,λv q=>nomatch q⟩
  ·exact⟨_,h2,λv q=>nomatch q⟩
  ·exact⟨_,h3,λv q=>nomatch q⟩
  ·exact⟨_,e4,λv q=>by rw[d4] at q; cases q⟩
  ·exact⟨_,e5,λv q=>by rw[d5] at q; cases q⟩
 keep:=λi h h' st k=>by
  obtain⟨h1,h2,⟨a,b',h3⟩,h4,h5⟩:=st;exact⟨k z (by simp) _ h1,k ti (by simp) _ h2,⟨a,b',k to (by simp) _ h3⟩,S1.kp h4 (k i1 (by simp)),S2.kp h5 (k i2 (by simp))⟩
 item:=by
  intro X hP hw hK hc i pins s σ H E I hf st hg;obtain⟨xs,ys,x,y,r1,r2,hx,hy⟩:=hg;obtain⟨⟨its,rv,b1⟩,u1⟩:=D1.rd hP hw hK I r1;obtain⟨⟨jts,rw',b2⟩,u2⟩:=D2.rd hP hw hK I r2;subst hP hw hK;obtain⟨ux,hux,rx⟩:=rv.get hx;obtain⟨uy,huy,ry⟩:=rw'.get hy;obtain⟨h1,h2,⟨a,b',h3⟩,h4,h5⟩:=st;have fz:=hf z (by simp);have ft:=hf to (by simp);have f1:=hf i1 (by simp);have f2:=hf i2 (by simp);refine aKy S1 S2 D h1 h2 h3 h4 h5 b1 b2 (x:=ux) (y:=uy) (by simpa using hux) (by simpa using huy) λg1 z1 t1 w1 w2 tu sz hk=>⟨.ref s.heap.objs.size,rfl,wpAny_letOwnedTupleGo_zip z1 λg2 z2 sb=>?_⟩;have hn:H s.heap.objs.size=none:=I.hok.fresh (xAl _);have lt:∀ {c o},s.heap.get? c=some o->c≠s.heap.objs.size:=λe=>xBi (xAs e);obtain⟨o4,v4,e4,d4⟩:=S1.ob h4;obtain⟨o5,v5,e5,d5⟩:=S2.ob h5
  have kp:∀ b o,b∉[z,to,i1,i2]->s.heap.get? b=some o->g2.get? b=some o:=λb o n e=>by
   simp only[List.mem_cons,List.not_mem_nil,or_false,not_or] at n;exact (sb.2 b n.1).trans (hk b o n.1 n.2.1 n.2.2.1 n.2.2.2 e)
  have fch:∀ b∈[z,to,i1,i2],mY X pins H b:=λb hb=>hf b (by
   simp only[List.mem_cons,List.not_mem_nil,or_false] at hb ⊢;rcases hb with h | h | h | h
   ·exact .inl h
   ·exact .inr (.inr (.inl h))
   ·exact .inr (.inr (.inr (.inl h)))
   ·exact .inr (.inr (.inr (.inr h))))
  have nH:∀ b v,H b=some v->b∉[z,to,i1,i2]:=λb v q hb=>by rw[(fch b hb).1] at q; cases q
  have nS:∀ b v,H b=some v->b≠s.heap.objs.size:=λb v q=>aI q hn
  have I2:Inv X pins σ (upd H s.heap.objs.size (.tup [x,y])) { s with heap:=g2 }:=by
   refine I.step (t':=s.toks) (g':=s.gens) (d':=s.drawn) (ch:=[z,to,i1,i2]) (λb hb=>⟨(fch b hb).2.2.2.1,(fch b hb).2.1,(fch b hb).2.2.2.2.1,(fch b hb).2.2.2.2.2⟩) (λb o _ _ hc e _=>kp b o hc e) (λb o _ _ hc e _=>⟨o.slots,kp b o hc e⟩)
    (λb o _ e n=>by rw[aL (lt e)]; exact n) (λb o hc e=>⟨o,kp b o hc e⟩) (λb ys e=>by rw[aL (nS b _ e)]; exact e) (λb o v e=>by rw[aL (nS b _ e)]; exact e)
    (λb ps e=>⟨#[],by rw[aL (nS b _ e),e]; simp⟩) (λm hm=>?_) (λb v q=>?_) I.bare
   ·obtain⟨o,es,ep,ho,r⟩:=hm;exact⟨o,es,ep,kp _ o (λhb=>(fch _ hb).2.1 rfl) ho,r⟩
   ·by_cases hb:b=s.heap.objs.size
    ·subst hb;rw[aE] at q;cases q;exact⟨by show 2<=sizeLine; decide,[ux,uy],.cons rx (.cons ry .nil),⟨_,(sb.2 _ (Ne.symm (lt h1))).trans tu,rfl,_,rfl⟩⟩
    ·rw[aL hb] at q;refine (I.hok b v q).stay (λc y hc e=>kp c y ?_ e) (λc e=>by rw[aL (nS c _ e)]; exact e) λc ys e=>by rw[aL (nS c _ e)]; exact e
     rcases hc with rfl | hc
     ·exact nH c v q
     ·exact nH c _ hc
  refine⟨.ref s.heap.objs.size,_,I2,rfl,⟨s.heap.objs.size,x,y,hn,rfl,rfl,λxs' h'=>by rw[u1 xs' h']; exact hx,λys' h'=>by rw[u2 ys' h']; exact hy⟩,⟨z2,?_,⟨_,_,(sb.2 to D.TOz).trans t1⟩,S1.kp w1 λo e=>(sb.2 i1 D.i1z).trans e,S2.kp w2 λo e=>(sb.2 i2 D.i2z).trans e⟩,λb hb=>?_⟩
  ·exact kp ti _ (by simp only[List.mem_cons,List.not_mem_nil,or_false,not_or]; exact⟨D.TIz,D.TITO,D.TIi1,D.TIi2⟩) h2
  ·have nb:b≠s.heap.objs.size:=by
    simp only[List.mem_cons,List.not_mem_nil,or_false] at hb;rcases hb with rfl | rfl | rfl | rfl | rfl
    ·exact lt h1
    ·exact lt h2
    ·exact lt h3
    ·exact lt e4
    ·exact lt e5
   rw[aL nb];exact (hf b hb).1
 done:=by
  intro X hP hw hK hc i pins s σ H E I hf st hg;obtain⟨xs,ys,r1,r2,hl⟩:=hg;obtain⟨⟨its,rv,b1⟩,_⟩:=D1.rd hP hw hK I r1;obtain⟨⟨jts,rw',b2⟩,_⟩:=D2.rd hP hw hK I r2;subst hP hw hK;obtain⟨h1,h2,⟨a,b',h3⟩,h4,h5⟩:=st;have e1:=rv.length;have e2:=rw'.length
  have he:its.toArray[i]?=none\/jts.toArray[i]?=none:=by
   rcases hl with h | h
   ·exact .inl (by rw[xEv]; exact xCl.mpr (by omega))
   ·exact .inr (by rw[xEv]; exact xCl.mpr (by omega))
  refine aJn (I.ok.hd hc) S1 S2 D h1 h2 h3 h4 h5 b1 b2 he λg hk=>⟨rfl,?_⟩
  have fch:∀ b∈[z,to,i1,i2],mY X pins H b:=λb hb=>hf b (by
   simp only[List.mem_cons,List.not_mem_nil,or_false] at hb ⊢;rcases hb with h | h | h | h
   ·exact .inl h
   ·exact .inr (.inr (.inl h))
   ·exact .inr (.inr (.inr (.inl h)))
   ·exact .inr (.inr (.inr (.inr h))))
  have kp:∀ b o,b∉[z,to,i1,i2]->s.heap.get? b=some o->g.get? b=some o:=λb o n e=>by
   simp only[List.mem_cons,List.not_mem_nil,or_false,not_or] at n;exact hk b o n.1 n.2.1 n.2.2.1 n.2.2.2 e
  have nH:∀ b v,H b=some v->b∉[z,to,i1,i2]:=λb v q hb=>by rw[(fch b hb).1] at q; cases q
  refine I.step (t':=s.toks) (g':=s.gens) (d':=s.drawn) (ch:=[z,to,i1,i2]) (λb hb=>⟨(fch b hb).2.2.2.1,(fch b hb).2.1,(fch b hb).2.2.2.2.1,(fch b hb).2.2.2.2.2⟩) (λb o _ _ hc e _=>kp b o hc e) (λb o _ _ hc e _=>⟨o.slots,kp b o hc e⟩)
   (λb o _ e n=>n) (λb o hc e=>⟨o,kp b o hc e⟩) (λb ys e=>e) (λb o v e=>e) (λb ps e=>⟨#[],by rw[e]; simp⟩) (λm hm=>?_) (λb v q=>?_) I.bare
  ·obtain⟨o,es,ep,ho,r⟩:=hm;exact⟨o,es,ep,kp _ o (λhb=>(fch _ hb).2.1 rfl) ho,r⟩
  ·refine (I.hok b v q).stay (λc y hc e=>kp c y ?_ e) (λc e=>e) λc ys e=>e;rcases hc with rfl | hc
   ·exact nH c v q
   ·exact nH c _ hc
 self:=λ_ i s _ _ ⟨h1,_⟩ h=>wpAny_pyIter_zip h1 h
theorem Bo.zip:bootBuiltins "zip" = some (.type "zip"):=by decide +kernel
section
variable {X:Cx}{elts:List Expr}{x1:Nat}{tpos:Pos}
inductive aVb (K:Frag)(vs:List V)(H1:Hp)(R:It->Hp->Prop):Prop
 | mk (a b:Addr)(h1:vs=[.ref a,.ref b])(h2:∃ xs,SqL K H1 a xs)(h3:∃ ys,SqT K H1 b ys)(r:R (Itz (λH xs=>SqL K H a xs) (λH ys=>SqT K H b ys)) H1)
def aSa (K:Frag)(ta:TA):TI:=λσ H R=>ta σ H λvs H1=>aVb K vs H1 R
theorem aTw {s:Shared}{b:Addr}(hb:b∈[s.heap.objs.size+4,s.heap.objs.size+2,s.heap.objs.size+3,s.heap.objs.size,s.heap.objs.size+1]):s.heap.objs.size<=b:=by
 simp only[List.mem_cons,List.not_mem_nil,or_false] at hb;rcases hb with rfl | rfl | rfl | rfl | rfl
 ·exact xEh ..
 ·exact xEh ..
 ·exact xEh ..
 ·exact xAl _
 ·exact xEh ..
theorem zE {l m:Expr}{ta:TA}{p pos:Pos}(hg:Gl X "zip")(hm:X.mg "zip" = none)(ha:PA X [l,m] ta)(hs:starEach [l,m] X.env=(false,eval l X.env)::starEach [m] X.env:=by rfl)(hpl:(backTo pos (starEach [m] X.env)).any (·.1)=false:=by rfl) :
  PI X (.Tuple elts x1 tpos) (.Call (.Name "zip" p) [l,m] [] pos) (aSa X.K ta):=by
 intro pins s σ H R I h;refine xCo (oN I hg hm Bo.zip ?_ (by decide) (by decide));refine xEd (thn (ha pos pins s σ H _ I h) λus s1 ⟨vs,H1,I1,r1,a,b,e1,⟨xs,hx⟩,⟨ys,hy⟩,q⟩=>?_) hs hpl;subst e1;obtain⟨u,w',rfl,rx,ry⟩:=aHz r1;cases rx;cases ry;obtain⟨its,rv,pl,_⟩:=I1.list hx;obtain⟨jts,rw',pt,_⟩:=I1.tuple hy;have a1:a<s1.heap.objs.size:=let ⟨_,e,_⟩:=pl.isList; xAs e;have a2:b<s1.heap.objs.size:=let ⟨_,e,_⟩:=pt; xAs e;refine aAv (Pre:=λs=>s.heap.IsList a its.toArray/\s.heap.IsTuple b jts.toArray) rfl rfl (by simpa only[and_assoc] using aAb a b its.toArray jts.toArray) ⟨pl.isList,pt⟩ λh' z1 t1 t2 o1 o2 k=>?_;have I2:Inv X pins σ H1 { s1 with heap:=h' }:=I1.kept (t':=s1.toks) k
 exact wpAny_pyIter_zip z1 ⟨s1.heap.objs.size+4,[s1.heap.objs.size+4,s1.heap.objs.size+2,s1.heap.objs.size+3,s1.heap.objs.size,s1.heap.objs.size+1],_,_,H1,rfl,I2,
  aId (aIi s1.heap.objs.size a) (aNa (s1.heap.objs.size+1) b) (aNj a) (aRa b) (zipApart_new a1 a2),⟨z1,t1,⟨_,_,t2⟩,⟨_,o1,rfl,rfl⟩,⟨_,o2,rfl,rfl⟩⟩,λc hc=>I1.fpOk (aTw hc) (I1.hok.fresh (aTw hc)),q⟩
theorem aFc {R1 R2:Hp->List V->Prop}{D:Addr}{xs ys:List V}{g:TG}{tc:TT}{te:TE}{R:Hp->Prop}{σ:St}{H:Hp}(Pv:Nat->St->Hp->Prop)(h0:Pv 0 σ H)(hxy:xs.length=ys.length)
  (hl:∀ i σ H,i<=xs.length->Pv i σ H->R1 H xs/\R2 H ys)
  (hs:∀ i x y σ H t,xs[i]?=some x->ys[i]?=some y->Pv i σ H->H t=none->g (.ref t) σ (upd H t (.tup [x,y])) λσ2 H2=>tc σ2 H2 λb H3=>if b=true then te σ2 H3 λy H4=>∃ ys,H4 D=some (.lst ys)/\ys.length<sizeLine/\Pv (i+1) σ2 (upd H4 D (.lst (ys++[y]))) else Pv (i+1) σ2 H3)
  (hd:∀ σ H,Pv xs.length σ H->R H):yH (Itz R1 R2) D g tc te R σ H:=by
 refine⟨λi m σ H=>m=xs.length-i/\i<=xs.length/\Pv i σ H,⟨xs.length,by simp,xBr _,h0⟩,?_⟩;rintro i m σ H ⟨rfl,hi,p⟩;obtain⟨q1,q2⟩:=hl i σ H hi p
 by_cases hlt:i<xs.length
 ·refine .inr ⟨⟨xs,ys,xs[i],ys[i]'(by omega),q1,q2,by simp[hlt],by simp⟩,Pv (i+1),λσ' H' p'=>⟨xs.length-(i+1),by omega,rfl,hlt,p'⟩,λv H' z=>?_⟩;obtain⟨t,x,y,ht,rfl,rfl,hx,hy⟩:=z;exact hs i x y σ H t (hx xs q1) (hy ys q2) p ht
 ·have e:i=xs.length:=by omega
  subst e;exact .inl ⟨⟨xs,ys,q1,q2,.inl (xAl _)⟩,hd σ H p⟩
end
section
variable {X:Cx}
inductive aXi (K:Frag)(x y:V)(H:Hp)(Q:VK):Prop
 | mk (a:Addr)(os:List (Option Str))(h0_:x=.non)(h1_:y=.ref a)(h2_:SqL K H a (os.map λo=>(o.map V.str).getD .non))(h3_:Q (.bl (os.any λo=>o.isNone)) H)
theorem yD {us:List Value}:∀ {os:List (Option Str)},cH (os.map λo=>(o.map V.str).getD .non) us->us.any (λv=>v==.none)=os.any λo=>o.isNone
 | [],r=>by cases r; rfl
 | o::os,r=>by
  cases r with
  | cons r1 r2=>
   rw[xDr,xDr,yD r2];cases o with
   | none=>cases r1; rfl
   | some z=>obtain⟨t,rfl⟩:=r1; rfl
theorem aRj:OpR X (compareOp .In) (aXi X.K):=by
 intro pins s σ H x y v u Q I rx ry h;obtain⟨a,os,rfl,rfl,ha,q⟩:=h;cases rx;cases ry;obtain⟨us,r1,p1,_⟩:=I.list ha;refine SeqAt.in_listAt (λy=>y==.none) p1.isList (λy hy=>?_) ⟨.bl (os.any λo=>o.isNone),H,I,?_,q⟩
 ·obtain⟨i,hi⟩:=xDk (show y∈us by simpa using hy);have l1:=r1.length;have li:i<us.length:=(xAd.mp hi).1;rw[xAa] at l1;have hoi:os[i]?=some os[i]:=xAe (by omega);obtain⟨u',e',ru⟩:=r1.get (i:=i) (x:=(os[i].map V.str).getD .non) (by rw[xAf,hoi]; rfl);rw[hi] at e';cases e';cases ho:os[i] with
  | none=>rw[ho] at ru; cases ru; exact SeqAt.EqAt.same _
  | some z=>
   rw[ho] at ru;obtain⟨t,rfl⟩:=ru;exact SeqAt.EqAt.str_none z t
 ·show Value.bool _=Value.bool _;rw[<- yD r1]
  simp
section
variable {prog:Program}{w:World}{A:Around}{E:xVP}{s:Shared}
end
end
section
variable {P:Program}{w:World}{A:Around}{R:Result->Shared->Prop}
end
section
variable {X:Cx}
end
section
variable {X:Cx}
end
def Kp (fr fr':List Addr)(H H':Hp)(h h':Heap):Prop:=∀ b o,h.get? b=some o->H b=none->b∉fr->h'.get? b=some o/\H' b=none/\b∉fr'
theorem Kp.trans {f1 f2 f3:List Addr}{H1 H2 H3:Hp}{h1 h2 h3:Heap}(a:Kp f1 f2 H1 H2 h1 h2)(b:Kp f2 f3 H2 H3 h2 h3):Kp f1 f3 H1 H3 h1 h3:=λc o e n f=>let ⟨x,y,z⟩:=a c o e n f; b c o x y z
structure oS (P:Program)(w:World)(K:Frag)(mg:xSO)(base:Heap)(k:Nat)(f:Addr)(sp:Sp)(outer:List Env)(s:Shared)(H:Hp):Prop where
 run:∀ (A:Around) (outer':List Env) (s':Shared) (H':Hp) (us:List Value) (vs:List V) (Q:VK) (E:XK),cM k A->uV P w K mg base A outer' s' H'->Kp (frs outer) (frs outer') H H' s.heap s'.heap->cH vs us->sp vs H' Q E ->
  codeAny (model P w) A (.call (.ref f) ⟨us,[]⟩) (CR (CXE P w) outer' P w H' s' Q E) s'
 fn:∀ (outer':List Env) (s':Shared) (H':Hp),Kp (frs outer) (frs outer') H H' s.heap s'.heap->FnAt f s'.heap
theorem oS.later {P:Program}{w:World}{K:Frag}{mg:xSO}{base:Heap}{k:Nat}{f:Addr}{sp:Sp}{outer outer':List Env}{s s':Shared}{H H':Hp}(h:oS P w K mg base k f sp outer s H)
  (kp:Kp (frs outer) (frs outer') H H' s.heap s'.heap):oS P w K mg base k f sp outer' s' H':=
 ⟨λA o2 s2 H2 us vs Q E hr e0 k2=>h.run A o2 s2 H2 us vs Q E hr e0 (kp.trans k2),λo2 s2 H2 k2=>h.fn o2 s2 H2 (kp.trans k2)⟩
section
variable {P:Program}{w:World}{K:Frag}{mg:xSO}{base:Heap}
theorem aPw {CX:CXT}{N:List Str}{qual:Str}{scope:Scope}{f:Addr}{cd:Value}{A:Around}{outer:List Env}{s s':Shared}{H H':Hp}{E:XK}{pins:xPn}{σ:St}(I:Inv (lG CX P w K mg base N qual scope f cd A outer s H E) pins σ H' s') :
  Kp (frs outer) (frs (lG CX P w K mg base N qual scope f cd A outer s H E).stack) H H' s.heap s'.heap:=λb o e n hb=>
 ⟨I.base.keep b o e n hb (by show b∉([]:List Addr); simp),I.base.free b o e n (by show b∉([]:List Addr); simp),λz=>by
  rcases xAo.mp (show b∈s.heap.objs.size::frs outer from z) with z | z
  ·exact xAz (xAs e) (by rw[z]; exact xDq _)
  ·exact hb z⟩
abbrev SpS:=List Env->Shared->List V->Hp->VK->XK->Prop
structure uU (P:Program)(w:World)(K:Frag)(mg:xSO)(base:Heap)(k:Nat)(f:Addr)(fd:FuncData)(ps:List Str)(sp:SpS):Prop where
 len:∀ o s vs H Q E,sp o s vs H Q E->vs.length=ps.length
 run:∀ (A:Around) (outer:List Env) (s:Shared) (H:Hp) (args:Args) (us:List Value) (vs:List V) (Q:VK) (E:XK),cM k A->uV P w K mg base A outer s H->BindsTo s fd args (ps.zip us)->cH vs us->sp outer s vs H Q E ->
  codeAny (model P w) A (.call (.ref f) args) (CR (CXE P w) outer P w H s Q E) s
theorem okS {x qual:Str}{st:Stmt}{f:Addr}{fd:FuncData}{N ps:List Str}{k:Nat}{sp:SpS}(F:Fun K x qual st f fd)(S:aR N ps (aB st))(len:∀ o s vs H Q E,sp o s vs H Q E->vs.length=ps.length)
  (hbody:∀ (cdv:Value) (A:Around) (outer:List Env) (s:Shared) (H:Hp) (vs:List V) (Q:VK) (E:XK),cM k (A.deeper (envOfC qual (aB st) s.heap.objs.size f cdv))->sp outer s vs H Q E ->
   (lG (CXE P w) P w K mg base N qual (aB st) f cdv A outer s H E).Body E ->
   ∃ t,PSs (lG (CXE P w) P w K mg base N qual (aB st) f cdv A outer s H E) (aG st) t/\t { nx:=λ_ H'=>Q .non H',rt:=Q } (jO N vs) H):uU P w K mg base (k+1) f fd ps sp:=
 ⟨len,λA outer s H args us vs Q E hr e0 hb hv hs=>aSc F S hr e0 hb (len _ _ _ _ _ _ hs) hv λcdv hr2=>hbody cdv A outer s H vs Q E hr2 hs sQ⟩
end
section
variable {X:Cx}
theorem uO {pins:xPn}{σ:St}{H:Hp}{s:Shared}{Q:VK}{E:XK}{f:Addr}{us:List Value}(I:Inv X pins σ H s)(hx:fP (CXE X.prog X.w) X E)
  (hc:codeAny (model X.prog X.w) X.A (.call (.ref f) ⟨us,[]⟩) (CR (CXE X.prog X.w) X.stack X.prog X.w H s Q E) s):wpAny (model X.prog X.w) X.A (call (.ref f) us) (EP X pins σ Q) X.xe s:=by
 refine xFn (xFi hc λr s' hq'=>?_);cases r with
 | error e=>exact hx pins σ H s e s' I hq'
 | ok fl=>
  cases fl with
  | ret u=>exact I.after hq'
  | next=>exact False.elim hq'
  | brk=>exact False.elim hq'
  | cont=>exact False.elim hq'
inductive aMt (i:Nat)(f:Addr)(sp:Sp)(E:XK)(te:TE)(σ:St)(H:Hp)(Q:VK):Prop
 | mk (h0_:σ[i]?=some (some (.ref f)))(h1_:te σ H λv H1=>sp [v] H1 Q E)
theorem aFs {x:Str}{p pos:Pos}{i k:Nat}{f:Addr}{sp:Sp}{E:XK}{e:Expr}{te:TE}(hN:X.N[i]?=some x)(hv:X.env.scope.names.lookup x=some .local)(hx:fP (CXE X.prog X.w) X E)(hr:cM k X.A)
  (hd:∀ pins σ H s,Inv X pins σ H s->oS X.prog X.w X.K X.mg X.base k f sp X.stack s H)(he:PE X e te)(hp:rE e=false:=by rfl)(h1:(x==("__debug__" : Str))=false:=by decide)(h2:(x==("__classdict__" : Str))=false:=by decide) :
  PE X (.Call (.Name x p) [e] [] pos) (aMt i f sp E te):=by
 intro pins s σ H Q I h;obtain⟨h0,h3⟩:=h;refine xCo (thn (aJi hN (.inl hv) h1 h2 pins s σ H (λv H'=>v=.ref f/\H'=H) I ⟨_,h0,rfl,rfl⟩) λu s1 h4=>?_);obtain⟨v,H',I1,r1,rfl,rfl⟩:=h4;cases r1;have kr:∀ {s2:Shared}{H2:Hp},Kp (frs X.stack) (frs X.stack) H2 H2 s2.heap s2.heap:=λb o e n hb=>⟨e,n,hb⟩;refine callWith_F ((hd _ _ _ _ I1).fn _ s1 H' kr) (thn ((pac he aF hp:PA X [e] _) pos pins s1 σ H' (λvs H1=>sp vs H1 Q E) I1 h3) λus s2 ⟨vs,H2,I2,r,q⟩=>⟨(hd _ _ _ _ I2).fn _ s2 H2 kr,?_⟩) (dI hp) rfl;exact uO I2 hx ((hd _ _ _ _ I2).run X.A X.stack s2 H2 us vs Q E hr I2.env0 kr r q)
end
structure aMm (scope:Scope)(x:Str)(NL:List Str):Prop where
 kind:scope.kind=.function
 co:scope.isCoroutine=false
 gen:scope.isGenerator=false
 cell:∀ x∈scope.names,x.2≠.cell
 loc:scope.names.lookup x=some .local
 nl:∀ x∈NL,scope.names.lookup x=some .free
def aOt (P:Program)(w:World)(K:Frag)(mg:xSO)(base:Heap)(A:Around)(outer:List Env)(q:Str)(scope:Scope)(f c':Addr)(cl:List (Str×Addr))(s:Shared)(H:Hp)(N:List Str)(E:XK):Cx where
 prog:=P
 w:=w
 K:=K
 mg:=mg
 base:=base
 A:=A.deeper (envX q scope s.heap.objs.size f (.ref c') cl)
 N:=N
 s₀:=s
 H₀:=H
 env:=envX q scope s.heap.objs.size f (.ref c') cl
 outer:=outer
 stack:=envX q scope s.heap.objs.size f (.ref c') cl::outer
 ex:=[]
 fn:=λ_=>false
 calm:=true
 pn:=[]
 xe:=λe s'=>wpAny (model P w) (A.deeper (envX q scope s.heap.objs.size f (.ref c') cl)) (leaving (envX q scope s.heap.objs.size f (.ref c') cl) e) (λ_ s''=>CXE P w outer H s E e s'') (λe' s''=>CXE P w outer H s E e' s'') s'
section
variable {P:Program}{w:World}{K:Frag}{mg:xSO}{base:Heap}{A:Around}{outer:List Env}{q:Str}{scope:Scope}{f c':Addr}{cl:List (Str×Addr)}{H:Hp}{s:Shared}{NL:List Str}{E:XK}
theorem aLk {σL:St}{k:Nat}{params:Arguments}{body:Expr}{te:TE}{Q:VK}{x:Str}{v:V}{u:Value}(e0:uV P w K mg base A outer s H)(L:aAu s.heap H (frs outer) f c' q params body scope cl NL σL)(S:aMm scope x NL)(hc:∀ x,scope.names.lookup x=some .free->∃ a,cl.lookup x=some a)(hr:cM (k+1) A)
  (hba:∀ pm ctv,bindArgs (kla_fn "<lambda>" q params body scope cl pm (.ref c') ctv) ⟨[u],[]⟩=pure [(x,u)])(rv:cO v u)(hb:PE (aOt P w K mg base A outer q scope f c' cl s H (x::NL) E) body te)(hq:te (some v::σL) H Q) :
  codeAny (model P w) A (.call (.ref f) ⟨[u],[]⟩) (CR (CXE P w) outer P w H s Q E) s:=by
 obtain⟨pm,ctv,ho⟩:=L.fn;obtain⟨⟨oc,vs,t,e1,e2,e3⟩,_,_⟩:=(show dP P w H s.heap c' (.ext (gU c' q)) from e0.hok c' _ L.code)
 refine kla_callFunE hr.depth ho rfl S.co S.gen rfl ⟨c',oc,vs,t,rfl,e1,e2,e3⟩ ?_;rw[hba];refine xAq (wpAny_newFunctionEnv S.cell (by intro y hy; rw[xAi.mp hy]; exact S.loc) (λh₁ hns hsb=>?_) S.kind);have hk:∀ b o,s.heap.get? b=some o->h₁.get? b=some o:=λb o e=>hsb.extBut b o (xBi (xAs e)) (xAj _ e);have lim:s.heap.NoLimit:=e0.mod.nolimit.keeps λb o e=>(e0.bs b o e).1;refine⟨lim.keeps hk,?_⟩;have kc:∀ a v,s.heap.IsCell a v->h₁.IsCell a v:=λa v ⟨o,h1,h2⟩=>⟨o,hk a o h1,h2⟩
 have J:Inv (aOt P w K mg base A outer q scope f c' cl s H (x::NL) E) [] (some v::σL) H { s with heap:=h₁,toks:=s.toks+([(x,u)]:List (Str×Value)).length }:=by
  refine⟨⟨e0.mod,S.kind,rfl,rfl,xAl _,L.inj,λx hx=>?_,λx c z _=>xAz z (by show ¬ false=true; decide),λ_=>hr.hd,Around.frames_deeper e0.frames,.inr ⟨rfl,rfl⟩,λb z=>xAz (show b∈([]:List Addr) from z) (by simp),e0.bs,e0.bsz,
   λb _ _ z=>xAz (show b∈([]:List Addr) from z) (by simp),λb z=>xAz (show b∈([]:List Addr) from z) (by simp),e0.funs,e0.frf⟩,
   rfl,e0.bare,Un.kept hk,⟨_,hns,λi y v' h1 h2 h3=>?_⟩,λx c e=>?_,e0.hok.fresh (xAl _),λx c e=>(L.cell x c e).2.1,λp hp=>xAz (show p∈([]:xPn) from hp) (by simp),e0.hok.kept hk,by show (some v::σL).length=(x::NL).length; rw[xBm,xBm,L.len]⟩
  ·have hx:scope.names.lookup x=some .cell\/scope.names.lookup x=some .free:=hx;rcases hx with hx | hx
   ·exact xAz rfl (S.cell _ (PySem.mem_of_lookup hx))
   ·exact hc x hx
  ·cases i with
   | zero=>
    have h1:(x::NL)[0]?=some y:=h1;cases h1;cases h2;exact⟨u,rv,.inl ⟨S.loc,by simp⟩⟩
   | succ i=>
    have h1:NL[i]?=some y:=by simpa using (show (x::NL)[i+1]?=some y from h1)
    obtain⟨a,u',hx,r,hc'⟩:=L.val i y v' h1 (by simpa using h2);exact⟨u',r,.inr ⟨.inr (S.nl y (xBa h1)),a,hx,kc a _ hc'⟩⟩
  ·obtain⟨⟨v,hv⟩,_⟩:=L.cell x c e;exact⟨v,kc c v hv⟩
 show codeAny _ _ (.expr body (envX q scope s.heap.objs.size f (.ref c') cl)) _ _;refine kla_codeExpr (xCr (hb [] _ _ H Q J hq) (λv s' ⟨x,H',J',r,q'⟩=>?_) λe s' h=>h);exact⟨x,H',J'.os,J'.bare,J'.base,J'.hok,r,q'⟩
end
theorem aAu.kp {h h':Heap}{H H':Hp}{fr fr':List Addr}{f c':Addr}{q:Str}{params:Arguments}{body:Expr}{scope:Scope}{cl:List (Str×Addr)}{NL:List Str}{σL:St}(L:aAu h H fr f c' q params body scope cl NL σL)
  (k:Kp fr fr' H H' h h')(hc:H' c'=some (.ext (gU c' q))):aAu h' H' fr' f c' q params body scope cl NL σL:=by
 obtain⟨pm,ctv,e⟩:=L.fn;obtain⟨k1,k2,k3⟩:=k _ _ e L.fH L.ff;have kc:∀ x a,cl.lookup x=some a->∀ v,h.IsCell a v->h'.IsCell a v:=λx a hx v ⟨o,ho,hd⟩=>⟨o,(k a o ho (L.cell x a hx).2.1 (L.cell x a hx).2.2).1,hd⟩;refine⟨⟨pm,ctv,k1⟩,k2,k3,hc,L.inj,λx a hx=>?_,λi x v h1 h2=>?_,L.len⟩
 ·obtain⟨⟨v,hv⟩,h1,h2⟩:=L.cell x a hx;obtain⟨o,ho,_⟩:=id hv;exact⟨⟨v,kc x a hx v hv⟩,(k a o ho h1 h2).2.1,(k a o ho h1 h2).2.2⟩
 ·obtain⟨a,u,hx,r,hc⟩:=L.val i x v h1 h2;exact⟨a,u,hx,r,kc x a hx _ hc⟩
inductive aIo (c':Addr)(q:Str)(te:XK->TE)(σL:St)(vs:List V)(H:Hp)(Q:VK)(E:XK):Prop
 | mk (v:V)(h0_:vs=[v])(h1_:H c'=some (.ext (gU c' q)))(h2_:te E (some v::σL) H Q)
inductive SpH (P:Program)(w:World)(K:Frag)(mg:xSO)(base:Heap)(kd:Nat)(spC:Addr->Sp->Sp)(outer:List Env)(s:Shared)(vs:List V)(H:Hp)(Q:VK)(E:XK):Prop
 | mk (df:Addr)(spD:Sp)(h0_:oS P w K mg base kd df spD outer s H)(h1_:spC df spD vs H Q E)
inductive aMn (P:Addr)(pos:Pos)(q:Str)(R:Addr->Hp->Prop)(H:Hp):Prop
 | made (ps:_) (h0_:H P=some (.tbl ps)) (h1_:TriplesOk ps.toList) (h2_:codeAmong pos ps.toList=none) (h3_:∀ c' H1,H c'=none->c'≠P->H1=upd (upd H P (.tbl (ps++#[rawInt pos.line,rawInt pos.col,.ref c']))) c' (.ext (gU c' q))->R c' H1)
 | hit (ps:_) (c':Addr) (h0_:H P=some (.tbl ps)) (h1_:TriplesOk ps.toList) (h2_:codeAmong pos ps.toList=some (.ref c')) (h3_:H c'=some (.ext (gU c' q))) (h4_:R c' H)
def aSv (P:Addr)(pos:Pos)(q:Str)(spC:Addr->Sp->Sp)(js:List Nat)(te:XK->TE)(t1:TE)(v3:V)(E:XK):TE:=λσ H Q=>t1 σ H λv1 H1=>aMn P pos q (λc' H2=>∀ f,spC f (aIo c' q te (eP 0 js σ)) [v1,.ref f,v3] H2 Q E) H1
section
variable {X:Cx}
theorem aNp {f c P:Addr}{fd:FuncData}{ps:List Str}{g y x:Str}{params:Arguments}{body e1:Expr}{scope:Scope}{lpos p p3 pos:Pos}{NL:List Str}{js:List Nat}{te:XK->TE}{t1:TE}{v3:V}{u3:Value}{k kd:Nat}{spC:Addr->Sp->Sp}{E:XK}
  (F:uU X.prog X.w X.K X.mg X.base k f fd ps (SpH X.prog X.w X.K X.mg X.base (kd+1) spC))(hr:cM k X.A)(hg:Gl X g)(hm:X.mg g=some (.ref f))(hk:keepIn X.K (.ref f)=true)(hbi:aX X.K fd ps [])(hx:fP (CXE X.prog X.w) X E)
  (hfn:∀ x,X.fn x=true)(hcode:X.env.code=.ref c)(hcd:codeHdIn X.K c P=true)(bm:qD X.mg X.base)
  (S:aMm scope x NL)(B:kO X scope NL 0 js)(hdef:defaultsOf params X.env=([],[]))(hba:∀ cl pm c' ctv u,bindArgs (kla_fn "<lambda>" (X.env.qual++"<lambda>") params body scope cl pm (.ref c') ctv) ⟨[u],[]⟩=pure [(x,u)])
  (hb:∀ (Ew:XK) A outer f c' cl s' H',cM kd (aOt X.prog X.w X.K X.mg X.base A outer (X.env.qual++"<lambda>") scope f c' cl s' H' (x::NL) Ew).A ->
   PE (aOt X.prog X.w X.K X.mg X.base A outer (X.env.qual++"<lambda>") scope f c' cl s' H' (x::NL) Ew) body (te Ew))
  (h1:PE X e1 t1)(hg3:Gl X y)(hm3:X.mg y=some u3)(r3:cO v3 u3)(hs1:rE e1=false:=by rfl)(hdb:(g==("__debug__" : Str))=false:=by decide)(hdb3:(y==("__debug__" : Str))=false:=by decide) :
  PE X (.Call (.Name g p) [e1,.Lambda params body scope lpos,.Name y p3] [] pos) (aSv P lpos (X.env.qual++"<lambda>") spC js te t1 v3 E):=by
 intro pins s0 σ H0 Q I0 h;refine xCo (jU I0 hg hm ?_ hdb);refine callWith_K (h₀:=X.base) I0.ok.mod.kin hk ?_ (dI hs1) rfl;rw[dI hs1,dI rfl,dI rfl];show wpAny _ _ (spliced ((false,eval e1 X.env)::(false,eval (.Lambda params body scope lpos) X.env)::(false,eval (.Name y p3) X.env)::backTo pos (starEach [] X.env))) _ _ s0;refine xEa (thn (h1 pins s0 σ H0 _ I0 h) λu1 s ⟨v1,H,I,r1,hq⟩=>?_)
 have fin:∀ (fl c':Addr) (H1:Hp) (s1:Shared) (pm ctv:Value),Inv X pins σ H1 s1->(∀ f,spC f (aIo c' (X.env.qual++"<lambda>") te (eP 0 js σ)) [v1,.ref f,v3] H1 Q E)->s.heap.objs.size<=fl->H1 fl=none->H1 c'=some (.ext (gU c' (X.env.qual++"<lambda>"))) ->
   (∀ b o,s.heap.get? b=some o->H b=none->s1.heap.get? b=some o/\H1 b=none)->s1.heap.get? fl=some (kla_obj "<lambda>" (X.env.qual++"<lambda>") params body scope (gT scope X.env) pm c' ctv) ->
   wpAny (model X.prog X.w) X.A (spliced ((false,eval (.Name y p3) X.env)::backTo pos (starEach [] X.env))) (λvs s₁=>X.K.In s₁.heap/\wpAny (model X.prog X.w) X.A (call (.ref f) ([]++([u1]++([Value.ref fl]++vs)))) (EP X pins σ Q) X.xe s₁) X.xe s1:=by
  intro fl c' H1 s1 pm ctv I1 hsp hsf hfH hcx hold hfo;refine xEa (jU I1 hg3 hm3 ?_ hdb3);refine xHj ⟨I1.kIn,?_⟩;have hcl:∀ n∈eW scope,∃ a,X.env.cells.lookup n=some a:=λn hn=>I.ok.has n (B.cel n hn);have cl1:∀ x a,(gT scope X.env).lookup x=some a->X.env.cells.lookup x=some a:=mU (eW scope) [] hcl λx a e=>by simp at e
  have hfree:∀ x,scope.names.lookup x=some .free->x∈eW scope:=λx e=>xAp.mpr ⟨(x,.free),xBx.mpr ⟨PySem.mem_of_lookup e,by simp⟩,rfl⟩
  have stkLt:∀ b∈frs X.stack,b<s.heap.objs.size:=λb hb=>by
   obtain⟨_,o,ho,_⟩:=I.stack.mem hb;exact xAs ho
  have hcell:∀ x a,X.env.cells.lookup x=some a->a∉frs X.stack:=λx a e z=>by
   rcases xAo.mp (I.stkSub a z) with z | z
   ·exact I.cne x a e z
   ·obtain⟨_,o,ho,_⟩:=I.ok.funs.mem z;exact xAz (xBc (xAs ho) (I.ok.cab x a (hfn x) e)) (xDq _)
  have L1:aAu s1.heap H1 (frs X.stack) fl c' (X.env.qual++"<lambda>") params body scope (gT scope X.env) NL (eP 0 js σ):=by
   refine⟨⟨pm,ctv,hfo⟩,hfH,λz=>xAz (xBc (stkLt fl z) hsf) (xDq _),hcx,λx y a e1 e2=>I.ok.inj x y a (cl1 x a e1) (cl1 y a e2),λx a e=>?_,λi x v e1 e2=>?_,?_⟩
   ·have e':=cl1 x a e;obtain⟨v,o,ho,hd⟩:=I.cell x a e';obtain⟨k1,k2⟩:=hold a o ho (I.freeC x a e');exact⟨⟨v,o,k1,hd⟩,k2,hcell x a e'⟩
   ·unfold eP at e2;rw[List.replicate_zero,xHs,xAf] at e2;cases hj:js[i]? with
    | none=>rw[hj] at e2; cases e2
    | some j=>
     rw[hj] at e2;have e2:some ((σ[j]?).join)=some (some v):=e2
     have e3:σ[j]?=some (some v):=by
      cases z:σ[j]? with
      | none=>rw[z] at e2; cases e2
      | some y=>rw[z] at e2; cases y with
       | none=>cases e2
       | some y=>cases e2; rfl
     have e4:X.N[j]?=some x:=by rw[B.at' i j hj,Nat.zero_add]; exact e1
     obtain⟨hfr,_⟩:=B.fre i x (xBr _) e1;have kx:=B.cel x hfr;obtain⟨m,hm,hl⟩:=I.loc;obtain⟨u,r,l⟩:=hl j x v e4 e3 (by rcases kx with z | z; exact .inr (.inl z); exact .inr (.inr z));rcases l with⟨kk,_⟩ | ⟨kk,a,ea,o,ho,hd⟩
     ·rcases kx with k' | k' <;> rw[kk] at k' <;> cases k'
     ·obtain⟨a',ha'⟩:=mV (env:=X.env) (eW scope) [] x (.inl hfr)
      have:=cl1 x a' ha'
      rw[ea] at this;cases this;exact⟨a,u,ha',r,o,(hold a o ho (I.freeC x a ea)).1,hd⟩
   ·unfold eP;rw[List.replicate_zero,xHs,xAa,B.len,Nat.zero_add]
  have hc:∀ x,scope.names.lookup x=some .free->∃ a,(gT scope X.env).lookup x=some a:=λx e=>mV (env:=X.env) (eW scope) [] x (.inl (hfree x e))
  have hd:oS X.prog X.w X.K X.mg X.base (kd+1) fl (aIo c' (X.env.qual++"<lambda>") te (eP 0 js σ)) X.stack s1 H1:=by
   refine⟨λA outer' s' H' us vs Q' E' hr' e0 kp hv hsl=>?_,λouter' s' H' kp=>?_⟩
   ·obtain⟨v,rfl,hc',hte⟩:=hsl;obtain⟨u,rfl,rv⟩:=jN hv;exact aLk (k:=kd) (E:=E') e0 (L1.kp kp hc') S hc hr' (λpm ctv=>hba _ pm c' ctv u) rv (hb E' A outer' fl c' _ s' H' (hr'.deeper _)) hte
   ·exact⟨_,_,_,_,(kp _ _ hfo L1.fH L1.ff).1⟩
  have sp1:SpH X.prog X.w X.K X.mg X.base (kd+1) spC X.stack s1 [v1,.ref fl,v3] H1 Q E:=⟨fl,_,hd,hsp fl⟩;have hl:[u1,.ref fl,u3].length=ps.length:=F.len _ _ _ _ _ _ sp1
  have bt:BindsTo s1 fd ⟨[u1,.ref fl,u3],[]⟩ (ps.zip [u1,.ref fl,u3]):=by
   have:=hbi s1 [u1,.ref fl,u3] I1.kIn (by rw[xBo]; exact hl)
   rw[xBo] at this;exact this
  exact uO I1 hx (F.run X.A X.stack s1 H1 _ _ _ Q E hr I1.env0 bt (.cons r1 (.cons (show cO (.ref fl) (.ref fl) from rfl) (.cons r3 .nil))) sp1)
 cases hq with
 | made ps hP ht hnf hte=>
  refine xEa (aLl I hcode hcd bm hP ht hnf hdef B.cel λfl c' pm ctv s1 I1 hc0 hcP hcf hcs hold hfo=>?_);have hPs:P<s.heap.objs.size:=I.hok.lt hP;have hsf:s.heap.objs.size<=fl:=xAn hcs (xEu hcf);refine fin fl c' _ s1 pm ctv I1 (hte c' _ hc0 hcP rfl) hsf ?_ aE (λb o e n=>?_) hfo
  ·rw[aL (xGc hcf),aL (xGc (xBc hPs hsf))];exact I.hok.fresh hsf
  ·have nP:b≠P:=λz=>by rw[z,hP] at n; cases n
   exact⟨hold b o nP e,by rw[aL (xBi (xBc (xAs e) hcs)),aL nP]; exact n⟩
 | hit ps c' hP ht hf hcx hR=>
  refine xEa (aOg I hcode hcd bm hP ht hf hdef B.cel λfl pm ctv s1 I1 hsf hold hfo=>?_);exact fin fl c' H s1 pm ctv I1 hR hsf (I.hok.fresh hsf) hcx (λb o e n=>⟨hold b o e,n⟩) hfo
end
def oF (d:Addr)(es:Array DictEntry)(ep:Nat)(h:Heap):Prop:=∃ o,h.get? d=some o/\o.ExactDict/\o.data=.dict es ep
section
variable {prog:Program}{w:World}{A:Around}{E:xVP}{s:Shared}{d:Addr}{es:Array DictEntry}{ep:Nat}
theorem oF.ty (x:oF d es ep s.heap):s.TypeIs (.ref d) "dict":=let ⟨o,a,b,_⟩:=x; ⟨o,a,b.1⟩
theorem oF.to {h h':Heap}(x:oF d es ep h)(k:∀ o,h.get? d=some o->h'.get? d=some o):oF d es ep h':=let ⟨o,a,b⟩:=x; ⟨o,k o a,b⟩
theorem aAi {Q:xVP}(lo:(d==sysModules)=false)(x:oF d es ep s.heap)
  (q:Q (.ref s.heap.objs.size) { s with heap:=s.heap.push { cls:=.type "dict_keyiterator",data:=.fields #[.ref d,.int 0 0,.int es.size 0,.int ep 0] } }):wpAny (model prog w) A (pyIter (.ref d)) Q E s:=by
 obtain⟨od,e1,e2,e3⟩:=id x;refine wpAny_pyIter_slot x.ty F.slot_dict_iter (xDs F.slot_dict_iter x.ty F.entry_dict_iter ?_ (F.args_dict_iter_1 _)); unfold Builtin.«dict.__iter__»; refine xAc ?_;unfold Builtin.Dict.dictSlotNone; refine xAc (wpAny_notOrdered_dict x.ty ?_); show wpAny _ _ (pure (Value.ref d)) _ _ s;refine xAq ?_; show wpAny _ _ (Builtin.Dict.showsAll d>>=_) _ _ s;unfold Builtin.Dict.showsAll; rw[xAt (by rw[lo]; exact xAv)];refine xAc (xAq ?_); refine xAc (wpAny_dictEntries e1 e3 ?_); refine xAc (wpAny_dictEpoch e1 e3 ?_);refine xAc (xCz (xAq ⟨_,rfl,"dict_keyiterator",_,⟨_,xAw _ rfl,rfl⟩,F.slot_dict_keyiterator_next.lookup,?_⟩)); simpa [rawInt] using q
theorem pS {it:Addr}{i:Nat}{Q:xOP}(hh:A.handled=none)(ht:s.heap.IsKeyIter it d i es.size ep)(x:oF d es ep s.heap)
  (q1:∀ e h',es[i]?=some e->h'.IsKeyIter it d (i+1) es.size ep->Heap.SameBut it s.heap h'->Q (some e.key) { s with heap:=h' })
  (q2:∀ h',es[i]?=none->Heap.ExtBut it s.heap h'->Q none { s with heap:=h' }):wpAny (model prog w) A (pyNext (.ref it)) Q E s:=by
 obtain⟨oi,i1,i2,i3⟩:=id ht;obtain⟨od,e1,e2,e3⟩:=id x;have tyI:=ht.typeIs;unfold pyNext; refine xAc (xId (wpAny_callSpecial?_slot (name:=Str.ofString "__next__") tyI F.slot_dict_keyiterator_next (xDs F.slot_dict_keyiterator_next tyI F.entry_dict_keyiterator_next ?_ (F.args_dict_keyiterator_next_1 _))));refine xAc (xAq ?_); refine xAc ?_; refine xAc ?_
 first | refine xAc (xEy tyI (xAq ?_)) | refine xAc (xFl tyI (xAq ?_))
 refine xAc (wpAny_fieldsOf i1 i3 ?_); have ow:Builtin.Dict_items.ownsTuple "dict_keyiterator"=false:=by decide
 simp only[ow,Bool.false_eq_true,if_false]; show wpAny _ _ (if (Value.ref d==Value.none)=true then _ else _) _ _ s
 rw[xAt (show ¬ ((Value.ref d==Value.none)=true) from xAv)]; refine xAc (xAq ?_); refine xAc (wpAny_dictEntries e1 e3 ?_)
 rw[xAt (by simp)]; refine xAc (xAq ?_); refine xAc (wpAny_dictEpoch e1 e3 ?_); rw[xAt (by simp)]; refine xAq ?_
 by_cases hl:i<es.size
 ·simp only[show ¬ ((i:Int)<0) from by omega,if_false,Int.toNat_natCast,Array.getElem?_eq_getElem hl]; refine xAc ?_
  first | refine xAc (xEy tyI (xAq ?_)) | refine xAc (xFl tyI (xAq ?_))
  refine xAc (xIy tyI ?_); show wpAny _ _ (setField (.ref it) 1 (rawInt ((i:Int)+1))>>=_) _ _ s
  refine xAc (xGo i1 i3 (by simp) ?_); have nx:(s.heap.update it (Obj.mapFields (·.setIfInBounds 1 (rawInt ((i:Int)+1))))).IsKeyIter it d (i+1) es.size ep:=
   ⟨_,xEx _ i1 (Obj.isFreed_of_fields (Obj.data_mapFields i3 _)),(Obj.cls_mapFields ..).trans i2,by rw[Obj.data_mapFields i3]; simp[rawInt]⟩
  refine xAc (xFb ?_); refine xAc (xIy (s:={ s with heap:=s.heap.update it (Obj.mapFields (·.setIfInBounds 1 (rawInt ((i:Int)+1)))) }) nx.typeIs ?_);show wpAny _ _ (pure es[i].key) _ _ _; exact xAq (xAq ⟨_,rfl,xAq (q1 _ _ (xHz hl) nx (xFh ..))⟩)
 ·have hn:es[i]?=none:=xIv (by omega);simp only[show ¬ ((i:Int)<0) from by omega,if_false,Int.toNat_natCast,hn]; refine xAc ?_
  first | refine xAc (xEy tyI (xAq ?_)) | refine xAc (xFl tyI (xAq ?_))
  show wpAny _ _ (setField (.ref it) 0 .none>>=_) _ _ s; refine xAc (xGo i1 i3 (by simp) ?_);show wpAny _ _ (newExc (.type "StopIteration") []>>=_) _ _ _; refine xAc ?_; simp only[newExc,newTuple]; refine xAc (xCz ?_ (by size_fits));refine xAc (m:=firstArgMember _ _) (xHr (a:=Value.none) (by first | rfl | (simp only[firstArgMember]; rfl)) ?_); refine xCz ?_ (by size_fits); simp only[raiseNew];refine xAc (wpAny_handled ?_); rw[show A.in1.handled=none from hh]; refine xAc (xAq (wpAny_throw ?_))
  refine xAc (wpAny_isInstance (T:="StopIteration") (b:=true) ⟨_,xAw _ rfl,rfl⟩ isSubtype_stop ?_); exact xAq (q2 _ hn (((xFh ..).extBut.push _).push _))
theorem aHh (hh:A.handled=none)(I:Addr)(hne:d≠I):Walks prog w A I [I,d] [I] es.size (λi v=>∃ e,es[i]?=some e/\v=e.key) (λi h=>h.IsKeyIter I d i es.size ep/\oF d es ep h) where
 sub:=λb hb=>by simp at hb; simp[hb]
 frame:=λ_ _ _ st hk=>⟨st.1.at λo e=>hk I (by simp) o e,st.2.to λo e=>hk d (by simp) o e⟩
 item:=λi s Q E hi st hQ=>pS hh st.1 st.2
  (λe h' he hi' hs=>hQ _ h' s.toks ⟨e,he,rfl⟩ ⟨hi',st.2.to λo e'=>hs.extBut d o hne e'⟩ λb o hb e'=>hs.extBut b o (λz=>hb (by simp[z])) e')
  (λh' he _=>xAz he (by simp[hi]))
 done:=λs Q E st hQ=>pS hh st.1 st.2 (λe h' he _ _=>xAz he (by simp)) λh' _ hx=>hQ h' s.toks λb o hb e'=>hx b o (λz=>hb (by simp[z])) e'
 self:=λ_ _ _ _ st hQ=>wpAny_pyIter_keyiter st.1 hQ
theorem aOi (lo:(d==sysModules)=false):KdlSrc prog w "dict" d d es.size (λi v=>∃ e,es[i]?=some e/\v=e.key) (oF d es ep) where
 type:=λ_ hm=>hm.ty
 there:=λ_ hm=>let ⟨_,e,_⟩:=hm; ⟨xAs e,xAs e⟩
 keep:=λ_ _ hm hk=>hm.to λo e=>hk d (.inl rfl) o e
 notList:=by decide
 notTuple:=by decide
 hint:=λ_ _ _ _ hm hq=>kdl_hint_dict hm.ty hq
 iter:=λ_ _ hh hm=>⟨_,_,(λ_ _ hq=>aAi lo hm hq),aHh hh _ (let ⟨_,e,_⟩:=hm; xBi (xAs e)),⟨⟨_,xAw _ rfl,rfl,rfl⟩,hm.to λ_ e=>xAj _ e⟩⟩
end
abbrev nW (H:Hp)(bs:List Addr)(rs:xLL):Prop:=Paired (λb (r:List Str)=>H b=some (.tup (r.map V.str))) bs rs
section
variable {X:Cx}
theorem aEo {H:Hp}:∀ {kvs:List (List Key×V)}{xs:List (List Key×Addr×Value)}{rs:xLL},KT H kvs xs->kvs.map (·.1)=rs.map (λr=>r.map Sum.inr)->nW H (xs.map (·.2.1)) rs
 | _,_,[],.nil,_=>.nil
 | _,_,_::_,.nil,e=>by cases e
 | _,_,[],.cons _ _,e=>by cases e
 | _,_,r::rs,.cons a b,e=>by
  have e1:=xIk e;refine .cons ?_ (aEo b e1.2);refine a.2.1.trans ((congrArg (λl=>some (HO.tup (l.map kV))) e1.1).trans ?_);show some (HO.tup ((r.map Sum.inr).map kV))=_;rw[xCy];rfl
theorem vV:∀ (bs:List Addr),cH (bs.map V.ref) (bs.map Value.ref)
 | []=>.nil
 | _::bs=>.cons rfl (vV bs)
inductive aUz (xs:List V)(H:Hp)(Q:VK):Prop
 | mk (d:Addr)(kvs:List (List Key×V))(rs:xLL)(h0_:xs=[.ref d])(h1_:H d=some (.dT kvs))(h2_:kvs.map (·.1)=rs.map (λr=>r.map Sum.inr))(h3_:∀ (p:Addr) (bs:List Addr),H p=none->nW H bs rs->Q (.ref p) (upd H p (.lst (bs.map V.ref))))
theorem aDg (hc:X.calm=true):CallR X (.type "list") aUz:=by
 intro pins s σ H xs us Q I r h;obtain⟨d,kvs,rs,rfl,hd,hk,q⟩:=h;obtain⟨u,rfl,rx⟩:=jN r;cases rx;obtain⟨z,lo,ys,rel,o,es,ep,h1,h2,h3,h4,h5⟩:=(show dP X.prog X.w H s.heap d (.dT kvs) from I.hok d _ hd)
 have hl:kvs.length=ys.length:=Paired.length rel;have hsz:es.size=ys.length:=by rw[<- xDd,h4,xAa]
 refine kdl_call (aOi (es:=es) (ep:=ep) lo) (I.ok.hd hc) ⟨o,h1,h2,h3⟩ (by omega) λh' tk acc c' hkp hD hacc=>?_
 have ea:acc.toList=(ys.map (·.2.1)).map Value.ref:=by
  refine xHg λj=>?_;cases hj:acc.toList[j]? with
  | none=>
   have l1:acc.toList.length<=j:=xCl.mp hj
   have:=hacc.1
   rw[xDd] at l1;exact (xCl.mpr (by rw[xAa,xAa]; omega)).symm
  | some v=>
   obtain⟨e,he,rfl⟩:=hacc.2 j v (by rw[<- xEf]; exact hj);rw[<- xEf,h4,xAf] at he;cases hy:ys[j]? with
   | none=>rw[hy] at he; cases he
   | some y=>
    rw[hy] at he;cases he;rw[xCy,xAf,hy];rfl
 refine⟨.ref s.heap.objs.size,_,I.laid (t':=tk) hkp (xAl _) ?_,rfl,q _ (ys.map (·.2.1)) (I.hok.fresh (xAl _)) (aEo rel hk)⟩;refine⟨by rw[xAa,xAa]; omega,acc.toList,c',by rw[ea]; exact vV _,by simpa using hD⟩
def aQj (tk tv:TE):TE:=λσ H Q=>∀ p,H p=none->tk σ (upd H p (.dT [])) λx H1=>tv σ H1 λy H2=>H2 p=some (.dT [])/\∃ (b:Addr) (ks:List Key),x=.ref b/\H2 b=some (.tup (ks.map kV))/\Q (.ref p) (upd H2 p (.dT [(ks,y)]))
theorem aJj {pos:Pos}{k v:Expr}{tk tv:TE}(hu:X.A.units<cLine)(hk:PE X k tk)(hv:PE X v tv):PE X (.Dict [some k] [v] pos) (aQj tk tv):=by
 intro pins s σ H Q I q;have hn:=I.hok.fresh (xAl s.heap.objs.size);have I1:=I.laid (a:=s.heap.objs.size) (o:=.dT []) (h':=s.heap.push { cls:=.type "dict",data:=.dict #[] }) (t':=s.toks) (λ_ _ q=>xAj _ q) (xAl _) (aAk s.heap I.big);refine wpAny_Dict_any rfl rfl (λz=>nomatch z) (Nat.succ_le_succ (xBr _)) (pairTrees_cons_walk (thn (hk pins _ σ _ _ I1 (q _ hn)) λu s1 ⟨x,H1,I1,rx,q1⟩=>thn (hv pins s1 σ H1 _ I1 q1) λw2 s2 ⟨y,H2,I2,ry,q2⟩=>pairTrees_nil_walk ?_));obtain⟨e,b,ks,rfl,eb,q3⟩:=q2;cases rx;obtain⟨z,lo,xs,rel,dd⟩:=aPz I2.hok e;cases rel;unfold storeAll;rw[xGg];refine xAc (xAc (wpAny_dictSet_heap (knd:=tupleKind (dS X.prog X.w)) (hsz:=xBr _) hu (oO I2.hok eb) dd λh' dd' hs=>xAq ?_));show wpAny _ _ (forIn [] PUnit.unit _) _ _ _;rw[xHy];refine xAq ⟨.ref s.heap.objs.size,_,?_,rfl,q3⟩;obtain⟨q',es,ep,hq,h2,h3,h4,_,h5⟩:=dd';refine xW I2 (by rw[e]; exact True.intro) hs ⟨q',hq⟩ ⟨xAn (by decide:1<=16) (by decide),lo,_,(KT.put (.nil:KT H2 [] []) ks eb ry).keeps λc ys ec=>?_,q',es,ep,hq,h2,h3,h4,h5⟩;rw[aL (gQ ec e (λz=>nomatch z))];exact ec
end
theorem nW.get {H:Hp}:∀ {bs:List Addr}{rs:xLL}{i:Nat}{b:Addr},nW H bs rs->bs[i]?=some b->∃ r,rs[i]?=some r/\H b=some (.tup (r.map V.str))
 | _,_,_,_,.nil,e=>by simp at e
 | _,_,0,_,.cons r _,e=>by simp at e; subst e; exact⟨_,rfl,r⟩
 | _,_,i+1,b,.cons _ t,e=>by
  obtain⟨u,h1,h2⟩:=nW.get (i:=i) (b:=b) t (by simpa using e);exact⟨u,by simpa using h1,h2⟩
theorem nW.same {H H':Hp}{bs:List Addr}{rs:xLL}(t:nW H bs rs)(s:∀ b xs,H b=some (.tup xs)->H' b=some (.tup xs)):nW H' bs rs:=Paired.mapP t λ_ _ e=>s _ _ e
theorem nW.snoc {H:Hp}:∀ {bs:List Addr}{rs:xLL}{b:Addr}{r:List Str},nW H bs rs->H b=some (.tup (r.map V.str))->nW H (bs++[b]) (rs++[r])
 | _,_,_,_,.nil,e=>.cons e .nil
 | _,_,_,_,.cons a t,e=>.cons a (nW.snoc t e)
section
variable {X:Cx}{pins:xPn}{σ:St}{H:Hp}{s:Shared}{A:Around}
def aXg:V->Hp->VK->Prop:=λx H Q=>∃ i:Int,x=.int i/\i.natAbs.log2<1920/\Q (.str (Str.ofString (toString i))) H
theorem xF {e:Expr}{te:TE}{pos:Pos}(he:PE X e te):PE X (.FormattedValue e (-1) none pos) (tUn aXg te):=by
 intro pins s σ H Q I h;refine FormattedValue_plain (thn (he pins s σ H _ I h) λv s1 ⟨x,H1,I1,r1,i,e1,hi,q⟩=>?_);subst e1;obtain⟨t,rfl⟩:=r1;exact wpAny_formatField_int hi ⟨.str _,H1,I1.tok _,⟨_,rfl⟩,q⟩
end
section
variable {X:Cx}
def aQo (spC:Addr->Sp->Sp)(df:Addr)(spD:Sp)(E:XK)(t:TA):TE:=λσ H Q=>t σ H λvs H1=>spC df spD vs H1 Q E
theorem aJm {f:Addr}{fd:FuncData}{ps:List Str}{g:Str}{e:Expr}{es:List Expr}{p pos:Pos}{t:TA}{k kd:Nat}{spC:Addr->Sp->Sp}{df:Addr}{spD:Sp}{E:XK}
  (F:uU X.prog X.w X.K X.mg X.base k f fd ps (SpH X.prog X.w X.K X.mg X.base kd spC))(hr:cM k X.A)(hg:Gl X g)(hm:X.mg g=some (.ref f))(hk:keepIn X.K (.ref f)=true)(hb:aX X.K fd ps [])(hx:fP (CXE X.prog X.w) X E)
  (hd:∀ pins σ H s,Inv X pins σ H s->oS X.prog X.w X.K X.mg X.base kd df spD X.stack s H)
  (ha:PA X (e::es) t)(hdb:(g==("__debug__" : Str))=false:=by decide)(he:starEach (e::es) X.env=(false,eval e X.env)::starEach es X.env:=by rfl)(hpl:(backTo pos (starEach es X.env)).any (·.1)=false:=by rfl) :
  PE X (.Call (.Name g p) (e::es) [] pos) (aQo spC df spD E t):=by
 intro pins s σ H Q I h;refine xCo (jU I hg hm ?_ hdb);refine xDy (h₀:=X.base) I.ok.mod.kin hk (thn (ha pos pins s σ H _ I h) λus s1 ⟨vs,H1,I1,r,q⟩=>⟨I1.kIn,?_⟩) he hpl;have sp1:SpH X.prog X.w X.K X.mg X.base kd spC X.stack s1 vs H1 Q E:=⟨df,spD,hd _ _ _ _ I1,q⟩;have hl:us.length=ps.length:=by rw[<- r.length]; exact F.len _ _ _ _ _ _ sp1
 have bt:BindsTo s1 fd ⟨us,[]⟩ (ps.zip us):=by
  have:=hb s1 us I1.kIn (by rw[xBo]; exact hl)
  rw[xBo] at this;exact this
 exact uO I1 hx (F.run X.A X.stack s1 H1 _ us vs Q E hr I1.env0 bt r sp1)
end
section
variable {X:Cx}{pins:xPn}{σ:St}{H:Hp}{s:Shared}{d:Addr}{kvs:List (List Key×V)}
theorem Inv.freezeT (I:Inv X pins σ H s)(e:H d=some (.dT kvs)):∃ o,Inv X pins σ (upd H d (.frz o (.dT kvs))) s:=by
 have hO:=I.hok d _ e;obtain⟨o,ho⟩:=hO.ex
 have ne:∀ b u,H b=some u->(∀ k,u≠.dT k)->(upd H d (.frz o (.dT kvs))) b=some u:=λb u z n=>by
  rw[aL (λy=>by rw[y,e] at z; cases z; exact n kvs rfl)];exact z
 refine⟨o,I.step (h':=s.heap) (g':=s.gens) (d':=s.drawn) (t':=s.toks) (ch:=[]) (λb hb=>nomatch hb) (λb u _ _ _ z _=>z) (λb u _ _ _ z _=>⟨u.slots,z⟩)
  (λb u _ _ n=>by rw[aL (λy=>by rw[y,e] at n; cases n)]; exact n) (λb u _ z=>⟨u,z⟩) (λb xs z=>ne b _ z λk y=>by cases y) (λb u v z=>ne b _ z λk y=>by cases y)
  (λb ps z=>⟨#[],by rw[ne b _ z λk y=>by cases y]; simp⟩) (λm hm=>hm) (λb u z=>?_) I.bare⟩
 by_cases hb:b=d
 ·subst hb;rw[aE] at z;cases z;exact⟨ho,hO.stay (λc y _ q=>q) (λc q=>ne c _ q λk y=>by cases y) λc ys q=>ne c _ q λk y=>by cases y⟩
 ·rw[aL hb] at z;exact (I.hok b u z).stay (λc y _ q=>q) (λc q=>ne c _ q λk y=>by cases y) λc ys q=>ne c _ q λk y=>by cases y
inductive aVg (v:V)(H':Hp)(Q:VK):Prop
 | mk (d:Addr)(kvs:List (List Key×V))(h1:v=.ref d)(h2:H' d=some (.dT kvs))(q:∀ o,Q v (upd H' d (.frz o (.dT kvs))))
 | no (o:Obj) (d:Addr) (kvs:List (List Key×V)) (h1:v=.ref d) (h2:H' d=some (.frz o (.dT kvs))) (q:Q v H')
def aIg (t:TE):TE:=λσ H Q=>t σ H λv H'=>aVg v H' Q
theorem tU {e:Expr}{t:TE}(h:PE X e t):PE X e (aIg t):=by
 intro pins s σ H Q I q;refine thn (h pins s σ H _ I q) λv s1 ⟨x,H1,I1,r1,q0⟩=>?_;cases q0 with
 | mk d kvs e1 e2 q1=>
  obtain⟨o,I2⟩:=I1.freezeT e2;exact⟨x,_,I2,r1,q1 o⟩
 | no o d kvs e1 e2 q1=>exact⟨x,_,I1,r1,q1⟩
theorem aPv:∀ {kvs:List (List Key×V)}{xs:List (List Key×Addr×Value)}{i:Nat}{kv:List Key×V},KT H kvs xs->kvs[i]?=some kv->∃ x,xs[i]?=some x/\kv.1=x.1/\H x.2.1=some (.tup (kv.1.map kV))
 | _,_,_,_,.nil,h=>by simp at h
 | _,_,0,_,.cons a _,h=>by simp at h; subst h; exact⟨_,rfl,a.1,a.2.1⟩
 | _,_,i+1,kv,.cons _ t,h=>by
  obtain⟨x,h1,h2⟩:=aPv (i:=i) (kv:=kv) t (by simpa using h);exact⟨x,by simpa using h1,h2⟩
theorem xU {o:Obj}{ep:Nat}(I:Inv X pins σ H s)(e:H d=some (.frz o (.dT kvs)))(hep:∃ es,o.data=.dict es ep) :
  (d==sysModules)=false/\∃ es,es.size=kvs.length/\oF d es ep s.heap/\∀ (i:Nat) (kv:List Key×V),kvs[i]?=some kv->∃ (en:DictEntry) (b:Addr),es[i]?=some en/\en.key=.ref b/\H b=some (.tup (kv.1.map kV)):=by
 obtain⟨ho,z,lo,ys,rel,o',es,ep',h1,h2,h3,h4,h5⟩:=(show dP X.prog X.w H s.heap d (.frz o (.dT kvs)) from I.hok d _ e)
 rw[ho] at h1;cases h1;obtain⟨es',he⟩:=hep;rw[he] at h3;cases h3;have hl:kvs.length=ys.length:=Paired.length rel;have hsz:es.size=ys.length:=by rw[<- xDd,h4,xAa]
 refine⟨lo,es,by omega,⟨o,ho,h2,he⟩,λi kv hk=>?_⟩;obtain⟨y,hy,e1,e2⟩:=aPv rel hk;refine⟨entryOfKey (tupleKind (dS X.prog X.w)) y,y.2.1,?_,rfl,?_⟩
 ·rw[<- xEf,h4,xAf,hy];rfl
 ·exact e2
end
def ItK (d:Addr)(o:Obj)(kvs:List (List Key×V)):It:=
 ⟨λi H=>H d=some (.frz o (.dT kvs))/\i<kvs.length,λi H x H'=>H'=H/\∃ (kv:List Key×V) (b:Addr),kvs[i]?=some kv/\x=.ref b/\H b=some (.tup (kv.1.map kV)),λi H=>H d=some (.frz o (.dT kvs))/\kvs.length<=i⟩
theorem aBc {P:Program}{w:World}{K:Frag}{tg:Expr}(d it:Addr)(o:Obj)(kvs:List (List Key×V))(ep:Nat)(hep:∃ es,o.data=.dict es ep):aAr P w K tg (ItK d o kvs) [it] it (λi h=>h.IsKeyIter it d i kvs.length ep) where
 mem:=by simp
 obj:=λi h st b hb=>by
  have e:b=it:=by simpa using hb
  subst e;obtain⟨o,e,c,d⟩:=st;exact⟨o,e,λv z=>by rw[d] at z; cases z⟩
 keep:=λi h h' st k=>by
  obtain⟨o,e,r⟩:=st;exact⟨o,k it (by simp) o e,r⟩
 item:=by
  intro X hP hw hK hc i pins s σ H E I hf st hg;subst hP hw hK;obtain⟨hd,hi⟩:=hg;obtain⟨lo,es,hsz,hat,hget⟩:=xU I hd hep;obtain⟨f0,f1,f2,f3,f4,f5⟩:=hf it (by simp);obtain⟨en,b,h1,h2,h3⟩:=hget i kvs[i] (by simp[hi]);rw[<- hsz] at st;refine pS (I.ok.hd hc) st hat (λe h' he st' sb=>?_) (λh' he _=>xAz he (by rw[h1]; simp));rw[h1] at he;cases he;have I1:Inv X pins σ H { s with heap:=h' }:=I.turned (t':=s.toks) (λb o hb e=>(sb.2 b hb).trans e) f0 f1 f3 f4 f5;obtain⟨o',e,c,dd⟩:=id st';exact⟨en.key,rfl,aEq (s:={ s with heap:=h' }) e c dd (by decide) ⟨.ref b,H,I1,h2,⟨rfl,kvs[i],b,by simp[hi],rfl,h3⟩,by rw[<- hsz]; exact st',λb hb=>(hf b hb).1⟩⟩
 done:=by
  intro X hP hw hK hc i pins s σ H E I hf st hg;subst hP hw hK;obtain⟨hd,hi⟩:=hg;obtain⟨lo,es,hsz,hat,hget⟩:=xU I hd hep;obtain⟨f0,f1,f2,f3,f4,f5⟩:=hf it (by simp);rw[<- hsz] at st hi;exact pS (I.ok.hd hc) st hat (λe h' he _ _=>xAz he (by rw[xIv hi]; simp)) λh' _ eb=>⟨rfl,I.turned (t':=s.toks) (λb o hb e=>eb b o hb e) f0 f1 f3 f4 f5⟩
 self:=λ_ _ _ _ _ st h=>wpAny_pyIter_keyiter st h
section
variable {X:Cx}{tg:Expr}
inductive aVd (x:V)(H1:Hp)(R:It->Hp->Prop):Prop
 | mk (d:Addr)(o:Obj)(kvs:List (List Key×V))(h1:x=.ref d)(h2:H1 d=some (.frz o (.dT kvs)))(r:R (ItK d o kvs) H1)
def aSb (tl:TE):TI:=λσ H R=>tl σ H λx H1=>aVd x H1 R
theorem zF {l:Expr}{tl:TE}(hl:PE X l tl):PI X tg l (aSb tl):=by
 intro pins s σ H R I h;refine thn (hl pins s σ H _ I h) λv s1 ⟨x,H1,I1,r1,q1⟩=>?_;obtain⟨d,o,kvs,e,hd,q⟩:=q1;subst e;cases r1
 have hep:∃ ep es,o.data=.dict es ep:=by
  obtain⟨ho,z,lo,ys,rel,o',es,ep',h1,h2,h3,h4,h5⟩:=(show dP X.prog X.w H1 s1.heap d (.frz o (.dT kvs)) from I1.hok d _ hd)
  rw[ho] at h1;cases h1;exact⟨ep',es,h3⟩
 obtain⟨ep,hep⟩:=hep;obtain⟨lo,es,hsz,hat,hget⟩:=xU I1 hd hep;refine aAi lo hat ?_;refine⟨s1.heap.objs.size,[s1.heap.objs.size],_,_,H1,rfl,I1.kept (t':=s1.toks) λb o e=>xAj _ e,aBc d _ o kvs ep hep,⟨_,xAw _ rfl,rfl,by rw[hsz]; rfl⟩,λb hb=>?_,q⟩;have e:b=s1.heap.objs.size:=by simpa using hb
 subst e;exact I1.fpOk (xAl _) (I1.hok.fresh (xAl _))
theorem aHs {d D:Addr}{o:Obj}{kvs:List (List Key×V)}{g:TG}{tc:TT}{te:TE}{R:Hp->Prop}{σ:St}{H:Hp}(Pv:Nat->St->Hp->Prop)(h0:Pv 0 σ H)
  (hl:∀ i σ H,i<=kvs.length->Pv i σ H->H d=some (.frz o (.dT kvs)))
  (hs:∀ i kv b σ H,kvs[i]?=some kv->H b=some (.tup (kv.1.map kV))->Pv i σ H->g (.ref b) σ H λσ2 H2=>tc σ2 H2 λb H3=>if b=true then te σ2 H3 λy H4=>∃ ys,H4 D=some (.lst ys)/\ys.length<sizeLine/\Pv (i+1) σ2 (upd H4 D (.lst (ys++[y]))) else Pv (i+1) σ2 H3)
  (hd:∀ σ H,Pv kvs.length σ H->R H):yH (ItK d o kvs) D g tc te R σ H:=by
 refine⟨λi m σ H=>m=kvs.length-i/\i<=kvs.length/\Pv i σ H,⟨kvs.length,by simp,xBr _,h0⟩,?_⟩;rintro i m σ H ⟨rfl,hi,p⟩;have q:=hl i σ H hi p
 by_cases hlt:i<kvs.length
 ·refine .inr ⟨⟨q,hlt⟩,Pv (i+1),λσ' H' p'=>⟨kvs.length-(i+1),by omega,rfl,hlt,p'⟩,λx H' y=>?_⟩;obtain⟨rfl,kv,b,e,rfl,hb⟩:=y;exact hs i kv b σ H' e hb p
 ·have e:i=kvs.length:=by omega
  subst e;exact .inl ⟨⟨q,xAl _⟩,hd σ H p⟩
theorem aHf {d:Addr}{o:Obj}{kvs:List (List Key×V)}{g:TG}{tb:TS}{D:uW}{σ:St}{H:Hp}(Pv:Nat->St->Hp->Prop)(h0:Pv 0 σ H)(hl:∀ i σ H,i<=kvs.length->Pv i σ H->H d=some (.frz o (.dT kvs)))
  (hs:∀ i kv b σ H,kvs[i]?=some kv->H b=some (.tup (kv.1.map kV))->Pv i σ H->g (.ref b) σ H λσ2 H2=>tb { D with nx:=Pv (i+1),ct:=Pv (i+1),bk:=D.nx } σ2 H2)(hd:∀ σ H,Pv kvs.length σ H->D.nx σ H) :
  ∃ W:Nat->Nat->St->Hp->Prop,(∃ m,W 0 m σ H)/\∀ i m σ H,W i m σ H ->
   ((ItK d o kvs).stop i H/\D.nx σ H)\/((ItK d o kvs).go i H/\∃ N:St->Hp->Prop,(∀ σ' H',N σ' H'->∃ m',m'<m/\W (i+1) m' σ' H')/\∀ x H',(ItK d o kvs).yld i H x H'->g x σ H' λσ2 H2=>tb { D with nx:=N,ct:=N,bk:=D.nx } σ2 H2):=by
 refine⟨λi m σ H=>m=kvs.length-i/\i<=kvs.length/\Pv i σ H,⟨kvs.length,by simp,xBr _,h0⟩,?_⟩;rintro i m σ H ⟨rfl,hi,p⟩;have q:=hl i σ H hi p
 by_cases hlt:i<kvs.length
 ·refine .inr ⟨⟨q,hlt⟩,Pv (i+1),λσ' H' p'=>⟨kvs.length-(i+1),by omega,rfl,hlt,p'⟩,λx H' y=>?_⟩;obtain⟨rfl,kv,b,e,rfl,hb⟩:=y;exact hs i kv b σ H' e hb p
 ·have e:i=kvs.length:=by omega
  subst e;exact .inl ⟨⟨q,xAl _⟩,hd σ H p⟩
theorem zI {a b:Expr}{ta tb:TE}{pos:Pos}(ha:PE X a ta)(hb:PE X b tb):PE X (.JoinedStr [a,b] pos) (aDu [ta,tb] Str.empty):=
 λpins s σ H Q I h=>JoinedStr_many ((pI ha (pI hb aJh)) Str.empty pins s σ H Q I h)
end
section
variable {X:Cx}
end
section
variable {X:Cx}{σ:St}{ι:Type}{CX:CXT}{k:Nat}{f C:Addr}{fd:FuncData}{ps:List Str}{sp:Sp}{dvs:List V}{ds:List Value}{E:XK}{x m:Str}{p pos apos:Pos}{e o:Expr}{es:List Expr}{ta:TE}{t:TA}{Cs fs:ι->Addr}{fds:ι->FuncData}{sps:ι->Sp}
def aYb (X:Cx)(σ:St)(e:Expr)(t:TE):Prop:=∀ (pins:xPn) (s:Shared) (H:Hp) (Q:VK),Inv X pins σ H s->t σ H Q->wpAny (model X.prog X.w) X.A (eval e X.env) (EP X pins σ Q) X.xe s
def aDn (CX:CXT)(X:Cx)(σ:St)(E:XK):Prop:=∀ (pins:xPn) (H:Hp) (s:Shared) (e:Value) (s':Shared),Inv X pins σ H s->CX X.stack H s E e s'->X.xe e s'
theorem fP.at (h:fP CX X E):aDn CX X σ E:=λpins H s e s'=>h pins σ H s e s'
theorem aBu {pins:xPn}{H:Hp}{s:Shared}{Q:VK}{us:List Value}{vs:List V}(F:aQ X.prog X.w X.K X.mg X.base CX k f fd ps sp)(hr:cM k X.A)(hb:aX X.K fd ps ds)(hd:cH dvs ds)(hx:aDn CX X σ E)
  (I:Inv X pins σ H s)(r:cH vs us)(h:sp (vs++dvs) H Q E):wpAny (model X.prog X.w) X.A (call (.ref f) us) (EP X pins σ Q) X.xe s:=by
 have r2:cH (vs++dvs) (us++ds):=r.append hd;have hl:(us++ds).length=ps.length:=by rw[<- r2.length]; exact F.len _ _ _ _ h
 refine xFn (xFi (F.run X.A X.stack s H ⟨us,[]⟩ (us++ds) (vs++dvs) Q E hr I.env0 (hb s us I.kIn hl) r2 h) λr s' hq=>?_);cases r with
 | error e=>exact hx pins H s e s' I hq
 | ok fl=>
  cases fl with
  | ret u=>exact I.after hq
  | _=>exact False.elim hq
inductive aPa (Cs:ι->Addr)(m:Str)(x:V)(H1:Hp)(R:ι->Prop):Prop
 | mk (i:ι)(a dx:Addr)(fl:List (Str×V))(h1:x=.ref a)(h2:H1 a=some (.ins (Cs i) dx fl))(h3:fl.lookup m=none)(r:R i)
def aBe (Cs:ι->Addr)(m:Str)(sps:ι->Sp)(E:XK)(ta:TE)(t:TA):TE:=λσ H Q=>ta σ H λx H1=>aPa Cs m x H1 λi=>t σ H1 λvs H2=>sps i (x::vs) H2 Q E
theorem aMc {pl:Sem Bool}(he:PE X o ta)(c:∀ i,Cls X.K (Cs i))(hm:∀ i,eE X.K (Cs i) m (fs i))(F:∀ i,aQ X.prog X.w X.K X.mg X.base CX k (fs i) (fds i) ps (sps i))(hr:cM k X.A)(hb:∀ i,aX X.K (fds i) ps [])(hx:aDn CX X σ E)(ha:PA X (e::es) t)
  (hst:starEach (e::es) X.env=(false,eval e X.env)::starEach es X.env:=by rfl)(hpl:(backTo pos (starEach es X.env)).any (·.1)=false:=by rfl)
  (ht:eval (.Call (.Attribute o m apos) (e::es) [] pos) X.env=(do
   let ov <- eval o X.env
   standAt apos.atName
   let (f,first) <- holding [ov] (getMethod ov m pl)
   callWith pos f first (backTo pos (starEach (e::es) X.env)) (backToKw pos (keywordEach [] X.env))):=by rfl) :
  aYb X σ (.Call (.Attribute o m apos) (e::es) [] pos) (aBe Cs m sps E ta t):=by
 intro pins s H Q I h;refine xEc (pl:=pl) (thn (he pins s σ H _ I h) λu s1 ⟨x,H1,I1,rx,i,a,dx,fl,ex,ea,l,q⟩=>?_) ht;subst ex;obtain rfl:u=Value.ref a:=rx;refine lD I1 ea (c i) (hm i) l (xDy (first:=[.ref a]) (h₀:=X.base) I.ok.mod.kin (hm i).kp (thn (ha pos pins s1 σ H1 _ I1 q) λus s2 ⟨vs,H2,I2,r,q2⟩=>⟨I2.kIn,?_⟩) hst hpl);exact aBu (us:=.ref a::us) (vs:=.ref a::vs) (dvs:=[]) (F i) hr (hb i) .nil hx I2 (.cons rfl r) (by rw[xBo]; exact q2)
theorem zG {pl:Sem Bool}(he:PE X o ta)(c:∀ i,Cls X.K (Cs i))(hm:∀ i,eE X.K (Cs i) m (fs i))(F:∀ i,aQ X.prog X.w X.K X.mg X.base CX k (fs i) (fds i) ps (sps i))(hr:cM k X.A)(hb:∀ i,aX X.K (fds i) ps [])(hx:fP CX X E)(ha:PA X (e::es) t)
  (hst:starEach (e::es) X.env=(false,eval e X.env)::starEach es X.env:=by rfl)(hpl:(backTo pos (starEach es X.env)).any (·.1)=false:=by rfl)
  (ht:eval (.Call (.Attribute o m apos) (e::es) [] pos) X.env=(do
   let ov <- eval o X.env
   standAt apos.atName
   let (f,first) <- holding [ov] (getMethod ov m pl)
   callWith pos f first (backTo pos (starEach (e::es) X.env)) (backToKw pos (keywordEach [] X.env))):=by rfl) :
  PE X (.Call (.Attribute o m apos) (e::es) [] pos) (aBe Cs m sps E ta t):=λpins s σ=>aMc he c hm F hr hb hx.at ha hst hpl ht pins s
theorem vW {pl:Sem Bool}(he:PE X o ta)(c:∀ i,Cls X.K (Cs i))(hm:∀ i,eE X.K (Cs i) m (fs i))(F:∀ i,aQ X.prog X.w X.K X.mg X.base CX k (fs i) (fds i) ps (sps i))(hr:cM k X.A)(hb:∀ i,aX X.K (fds i) ps [])(hx:fP CX X E)
  (ht:eval (.Call (.Attribute o m apos) [] [] pos) X.env=(do
   let ov <- eval o X.env
   standAt apos.atName
   let (f,first) <- holding [ov] (getMethod ov m pl)
   callWith pos f first [] []):=by rfl):PE X (.Call (.Attribute o m apos) [] [] pos) (aBe Cs m sps E ta aBd):=by
 intro pins s σ H Q I h;refine xEc (pl:=pl) (thn (he pins s σ H _ I h) λu s1 ⟨x,H1,I1,rx,i,a,dx,fl,ex,ea,l,q⟩=>?_) ht;subst ex;obtain rfl:u=Value.ref a:=rx;refine lD I1 ea (c i) (hm i) l (callWith_K0 (first:=[.ref a]) I1.kIn (hm i).kp ?_);exact aBu (us:=[.ref a]) (vs:=[.ref a]) (dvs:=[]) (F i) hr (hb i) .nil hx.at I1 (.cons rfl .nil) (by rw[xBo]; exact q)
theorem sL {pl:Sem Bool}{mc:Value}(hg:Gl X x)(hm:X.mg x=some (.ref C))(hs:specialIn X.K (.ref C) "__getattribute__" = some (some (.builtin "type.__getattribute__")))(hrd:readsIn X.K C mc=true)(hf:findCls X.K (.ref C) mc m=some (.val (.ref f)))(hh:handedIn (.ref f)=true)
  (kp:keepIn X.K (.ref f)=true)(F:aQ X.prog X.w X.K X.mg X.base CX k f fd ps sp)(hr:cM k X.A)(hb:aX X.K fd ps [])(hx:fP CX X E)(ha:PA X (e::es) t)
  (hdb:(x==("__debug__" : Str))=false:=by decide)(hst:starEach (e::es) X.env=(false,eval e X.env)::starEach es X.env:=by rfl)(hpl:(backTo pos (starEach es X.env)).any (·.1)=false:=by rfl)
  (ht:eval (.Call (.Attribute (.Name x p) m apos) (e::es) [] pos) X.env=(do
   let ov <- eval (.Name x p) X.env
   standAt apos.atName
   let (f,first) <- holding [ov] (getMethod ov m pl)
   callWith pos f first (backTo pos (starEach (e::es) X.env)) (backToKw pos (keywordEach [] X.env))):=by rfl) :
  PE X (.Call (.Attribute (.Name x p) m apos) (e::es) [] pos) (aPf sp [] E t):=by
 intro pins s σ H Q I h;refine xEc (pl:=pl) (jU I hg hm ?_ hdb) ht;refine method_cls I.kIn hs (cls_value I.kIn hrd hf hh ?_);have I1:=I.tok (s.toks+1);refine xDy (first:=[]) (h₀:=X.base) I.ok.mod.kin kp (thn (ha pos pins _ σ H _ I1 h) λus s2 ⟨vs,H2,I2,r,q2⟩=>⟨I2.kIn,?_⟩) hst hpl;exact aBu (us:=us) (vs:=vs) (dvs:=[]) F hr hb .nil hx.at I2 r q2
end
section
variable {X:Cx}{pins:xPn}{σ:St}{H:Hp}{s:Shared}
end
theorem aHt (a b:Value):argsOk "max" ⟨[a],[("default",b)]⟩:=by unfold argsOk; kernel_rfl
def sE:Option Value->List Value->Option Value
 | b,[]=>b
 | none,u::us=>sE (some u) us
 | some (.int m t),.int n r::us=>sE (if n>m then some (.int n r) else some (.int m t)) us
 | some b,_::us=>sE (some b) us
def isInt:Value->Prop
 | .int _ _=>True
 | _=>False
section
variable {P:Program}{w:World}{A:Around}{R:Result->Shared->Prop}
theorem aOe {it a S:Addr}{us:List Value}{d:Value}(hh:A.handled=none)(hi:∀ u∈us,isInt u)(ni:it≠S)(na:a≠S) :
  ∀ (k i:Nat) (s:Shared) (b:Option Value) (c:Nat),us.length-i=k->i<=us.length->(∀ v,b=some v->isInt v)->s.heap.IsListIter it a i->s.heap.IsList a us.toArray->s.heap.get? S=some { cls:=.type "list",data:=.seq (match b with | none=>#[] | some v=>#[v,v]) c } ->
   (∀ s',s'.gens=s.gens->s'.os=s.os->s'.drawn=s.drawn->s'.toks=s.toks->(∀ b o,b≠it->b≠S->s.heap.get? b=some o->s'.heap.get? b=some o)->R (.ok (.ret ((sE b (us.drop i)).getD d))) s') ->
   codeAny (model P w) A (.builtin "max.loop" ⟨[.ref it,.none,.ref S],[("default",d)]⟩) R s:=by
 intro k
 induction k with
 | zero=>
  intro i s b c hk hl hb h1 h2 h3 q;have ei:i=us.length:=by omega
  subst ei;rw[List.drop_of_length_le (xAl _)] at q;refine codeAny_builtin xIr ?_;rw[Around.under_plainId xDe _];show wpAny _ A.in1 (seqItems? (.ref S)>>=_) _ _ s;refine xAc (xCx h3 rfl ?_);show wpAny _ A.in1 (tryCatch (pyNext (.ref it)) _>>=_) _ _ s;refine xAc (xGn (xIw hh h1 h2 (by simp) λh' ex=>?_));cases b with
  | none=>
   show wpAny _ _ (rule _>>=_) _ _ _;exact xAc (xHb (xAq (q _ rfl rfl rfl rfl λb o n1 n2 e=>ex b o n1 e)))
  | some v=>
   have nS:S≠it:=Ne.symm ni;show wpAny _ _ (updateSeq S (λ_=>#[])>>=_) _ _ _;refine xAc (xHq (ex S _ nS h3) rfl (xAc (xFd (xAq (q _ rfl rfl rfl rfl λb o n1 n2 e=>?_)))));exact (xEq _ _ (Ne.symm n2)).trans (ex b o n1 e)
 | succ k ih=>
  intro i s b c hk hl hb h1 h2 h3 q;have hlt:i<us.length:=by omega
  have hu:=xAe hlt;have hmem:=xCg hlt;have ed:us.drop i=us[i]::us.drop (i+1):=xDh hlt;rw[ed] at q;generalize us[i]=u at hu hmem q;have iu:=hi u hmem;have nai:a≠it:=λz=>by obtain⟨o,e',cc,_⟩:=h1; obtain⟨o2,e2,cc2,_⟩:=h2; rw[z,e'] at e2; cases e2; rw[cc] at cc2; simp at cc2
  refine codeAny_builtin xIr ?_;rw[Around.under_plainId xDe _];show wpAny _ A.in1 (seqItems? (.ref S)>>=_) _ _ s;refine xAc (xCx h3 rfl ?_);show wpAny _ A.in1 (tryCatch (pyNext (.ref it)) _>>=_) _ _ s;refine xAc (xGn (xIo h1 h2 (x:=u) (by simp[hu]) λg1 j1 sb=>?_));have k1:∀ {d o},d≠it->s.heap.get? d=some o->g1.get? d=some o:=λn e=>sb.extBut _ _ n e;have h31:=k1 (Ne.symm ni) h3
  have go:∀ (g:Heap) (b':Option Value) (c':Nat),(∀ v,b'=some v->isInt v)->g.get? S=some { cls:=.type "list",data:=.seq (match b' with | none=>#[] | some v=>#[v,v]) c' }->(∀ {d o},d≠S->g1.get? d=some o->g.get? d=some o)->sE b (u::us.drop (i+1))=sE b' (us.drop (i+1)) ->
    codeAny (model P w) A (.builtin "max.loop" ⟨[.ref it,.none,.ref S],[("default",d)]⟩) R { s with heap:=g }:=λg b' c' hb' hS kg eb=>
   ih (i+1) _ b' c' (by omega) hlt hb' (j1.at λo e=>kg ni e) (h2.at λo e=>kg na (k1 nai e)) hS λs' e1 e2 e3 e4 e5=>by
    have:=q s' e1 e2 e3 e4 λb o n1 n2 e=>e5 b o n1 n2 (kg n2 (k1 n1 e))
    rw[eb] at this;exact this
  cases b with
  | none=>
   show wpAny _ A.in1 (updateSeq S (λ_=>#[u,u])>>=_) _ _ _;refine xAc (xHq h31 rfl ?_);refine xAq ⟨plainId_quiet xDe _,go _ (some u) _ (λv z=>by cases z; exact iu) (xEx (Obj.mapSeq λ_=>#[u,u]) h31 rfl) (λn e=>(xEq _ _ (Ne.symm n)).trans e) rfl⟩
  | some v=>
   have iv:=hb v rfl;cases u with
   | int n r=>
    cases v with
    | int m t=>
     show wpAny _ A.in1 (tryCatch (holding [Value.int n r,Value.int n r] _) _>>=_) _ _ _;refine xAc (xGn (xFb ?_));show wpAny _ A.in1 (richCompare .Gt (.int n r) (.int m t)>>=_) _ _ _;refine xAc (CmpOf.ints_gt (P:=λj v=>(j=0->v=.int n r)/\(j≠0->v=.int m t)) (λj=>if j=0 then n else m) (λj v hv=>?_) 0 1 _ _ _ _ _ ⟨λ_=>rfl,λz=>xAz rfl z⟩ ⟨λz=>xAz z (by decide),λ_=>rfl⟩ ?_)
     ·by_cases hj:j=0
      ·rw[xAu hj]; exact⟨r,hv.1 hj⟩
      ·rw[xAt hj]; exact⟨t,hv.2 hj⟩
     ·refine xAc (xFb (xCj (xAc (xFd (xAq ?_)))));show wpAny _ _ (if decide (n>m)=true then _ else _) _ _ _
      by_cases hc:n>m
      ·rw[xAu (xAk hc)];refine xAc (xHq h31 rfl (xAc (xFd ?_)));exact xAq ⟨plainId_quiet xDe _,go _ (some (.int n r)) _ (λv z=>by cases z; trivial) (xEx (Obj.mapSeq λ_=>#[Value.int n r,Value.int n r]) h31 rfl) (λn e=>(xEq _ _ (Ne.symm n)).trans e) (by rw[sE,xAu hc])⟩
      ·rw[xAt λz=>hc (xAg z)];refine xAc (xFd ?_);exact xAq ⟨plainId_quiet xDe _,go _ (some (.int m t)) _ (λv z=>by cases z; trivial) h31 (λ_ e=>e) (by rw[sE,xAt hc])⟩
    | _=>exact iv.elim
   | _=>exact iu.elim
theorem xZ:∀ {ns:List Nat}{us:List Value}{b:Option Value}{m:Nat},cH (ns.map λ(n:Nat)=>V.int (n:Int)) us->(b=none/\m=0\/∃ t,b=some (.int (m:Int) t))->∀ t0,∃ t,(sE b us).getD (.int 0 t0)=.int ((ns.foldl max m:Nat):Int) t
 | [],us,b,m,r,hb,t0=>by
  cases r;rcases hb with⟨rfl,rfl⟩ | ⟨t,rfl⟩
  ·exact⟨t0,rfl⟩
  ·exact⟨t,rfl⟩
 | n::ns,us,b,m,r,hb,t0=>by
  cases r with
  | cons r1 r2=>
   obtain⟨t',rfl⟩:=r1;rcases hb with⟨rfl,rfl⟩ | ⟨t,rfl⟩
   ·rw[sE,xGh,Nat.zero_max];exact xZ r2 (.inr ⟨_,rfl⟩) t0
   ·rw[sE,xGh];refine xZ r2 (.inr ?_) t0
    by_cases hc:(n:Int)>m
    ·rw[xAu hc,Nat.max_eq_right (by omega)]; exact⟨_,rfl⟩
    ·rw[xAt hc,Nat.max_eq_left (by omega)]; exact⟨_,rfl⟩
theorem aEp:∀ {ns:List Nat}{us:List Value},cH (ns.map λ(n:Nat)=>V.int (n:Int)) us->∀ u∈us,isInt u
 | [],us,r,u,hu=>by cases r; cases hu
 | n::ns,us,r,u,hu=>by
  cases r with
  | cons r1 r2=>
   obtain⟨t',rfl⟩:=r1;rcases xAo.mp hu with rfl | hu
   ·trivial
   ·exact aEp r2 u hu
end
section
variable {X:Cx}
def aSt (K:Frag)(te:TE):TE:=λσ H Q=>te σ H λx H1=>∃ (a:Addr) (ns:List Nat),x=.ref a/\SqL K H1 a (ns.map λ(n:Nat)=>V.int (n:Int))/\Q (.int ((ns.foldl max 0:Nat):Int)) H1
theorem aNo {e:Expr}{te:TE}{j:Nat}{p pos kp cp:Pos}(hc:X.calm=true)(hg:Gl X "max")(hm:X.mg "max" = none)(he:PE X e te)(hst:starEach [e] X.env=(false,eval e X.env)::starEach [] X.env:=by rfl)
  (hpl:(backTo pos (starEach [e] X.env)).any (·.1)=false:=by rfl) :
  PE X (.Call (.Name "max" p) [e] [⟨some "default",.Constant (.int 0) j cp,kp⟩] pos) (aSt X.K te):=by
 intro pins s σ H Q I h;refine xCo (oN I hg hm (show bootBuiltins "max" = some (.builtin "max") by decide +kernel) ?_ (by decide) (by decide));refine callWith_builtin_kwB hpl rfl ?_
 let QA:List V->Hp->Prop:=λvs H1=>match vs with
  | [x]=>∃ (a:Addr) (ns:List Nat),x=.ref a/\SqL X.K H1 a (ns.map λ(n:Nat)=>V.int (n:Int))/\Q (.int ((ns.foldl max 0:Nat):Int)) H1
  | _=>False
 have ha:=(iR he aF hst) pos pins s σ H QA I h;rw[hst] at ha ⊢;refine evalArgs_kwB rfl (thn ha λus s1 ⟨vs,H1,I1,r,q⟩=>?_);obtain _ | ⟨x,_ | _⟩:=vs
 ·exact q.elim
 rotate_left
 ·exact q.elim
 obtain⟨a,ns,rfl,hs,q⟩:=q;obtain⟨_,rfl,r1⟩:=r.one;cases r1;refine thn ((aNn (nm:=some "default") (kpos:=kp) aN aRd) pos pins s1 σ H1 (λzs H2=>zs=[.int 0]/\H2=H1) I1 ⟨rfl,rfl⟩) λws s2 ⟨zs,H2,I2,rz,ez,eH⟩=>?_;subst ez eH;obtain⟨_,rfl,t0,rfl⟩:=rz.one;obtain⟨us,rv,pl,_⟩:=I2.list hs;obtain⟨t,ht⟩:=xZ rv (.inl ⟨rfl,rfl⟩) t0;show wpAny _ _ (call (.builtin "max") [.ref a] [("default",.int 0 t0)]) _ _ _;refine xFn (xGk PySem.F.plain_max PySem.F.entry_max ?_);refine xHr (aHt _ _) ?_;show wpAny _ _ (Builtin.Builtins.bindParams "max" ["key","default"] 0 ⟨[],[("default",.int 0 t0)]⟩>>=_) _ _ _;refine xAc (xHr (show Builtin.Builtins.bindParams "max" ["key","default"] 0 ⟨[],[("default",.int 0 t0)]⟩=pure [none,some (.int 0 t0)] from rfl) (xAc (xAq (xAc (xFm pl.isList (xAc (xCz ?_)))))))
 have z1:(s2.heap.push { cls:=.type "list_iterator",data:=.fields #[.ref a,.int 0 0] }).objs.size=s2.heap.objs.size+1:=xDu ..;have it1:(s2.heap.push { cls:=.type "list_iterator",data:=.fields #[.ref a,.int 0 0] }).get? s2.heap.objs.size=some { cls:=.type "list_iterator",data:=.fields #[.ref a,.int 0 0] }:=xAw _ rfl;have up1:∀ {d o},s2.heap.get? d=some o->(s2.heap.push { cls:=.type "list_iterator",data:=.fields #[.ref a,.int 0 0] }).get? d=some o:=λe=>xAj _ e;generalize s2.heap.push { cls:=.type "list_iterator",data:=.fields #[.ref a,.int 0 0] }=g at z1 it1 up1 ⊢;have lt:∀ {d o},s2.heap.get? d=some o->d<s2.heap.objs.size:=λe=>xAs e;have nS:∀ {d o},s2.heap.get? d=some o->d≠g.objs.size:=λe z=>by have:=lt e; rw[z,z1] at this; exact xAz this (Nat.not_lt.mpr (xGr _))
 obtain⟨oa,ga,_⟩:=id pl.isList;have up2:∀ {d o},g.get? d=some o->(g.push { cls:=.type "list",data:=.seq #[] }).get? d=some o:=λe=>xAj _ e;have hS2:(g.push { cls:=.type "list",data:=.seq #[] }).get? g.objs.size=some { cls:=.type "list",data:=.seq #[] 0 }:=xAw _ rfl;refine xAq ⟨plainId_quiet xDe _,aOe (us:=us) (d:=.int 0 t0) (I.ok.hd hc) (aEp rv) (λz=>xBi (xHn _) (z.trans z1)) (nS ga) us.length 0 _ none 0 rfl (xBr _) (λ_ z=>nomatch z) ⟨_,up2 it1,rfl,rfl⟩ (pl.isList.at λo e=>up2 (up1 e)) hS2 λs' e1 e2 e3 e4 e5=>?_⟩;obtain⟨hp',gg,dd,tt,oo⟩:=s';dsimp only at e1 e2 e3 e4 e5;subst e1 e2 e3 e4;show EP X pins σ Q ((sE none us).getD _) _;rw[ht];exact⟨.int _,H2,I2.kept (t':=s2.toks) λb o e=>e5 b o (xBi (lt e)) (nS e) (up2 (up1 e)),⟨_,rfl⟩,q⟩
end
section
variable {X:Cx}
def aNk (x:V)(vs:List V)(H:Hp)(Q:VK):Prop:=∃ (l:Addr) (ss:List Str) (z:Str) (j:Nat),x=.ref l/\vs=[.str z]/\H l=some (.lst (ss.map V.str))/\ss[j]?=some z/\(∀ m,m<j->ss[m]?≠some z)/\Q (.int (j:Int)) H
def eqS (z:Str):Value->Bool
 | .str y _=>y.cps.toList==z.cps.toList
 | _=>false
theorem aEu {y z:Str}{t:Tok}:eqS z (.str y t)=true↔y=z:=by
 show (y.cps.toList==z.cps.toList)=true↔_;obtain⟨⟨a⟩⟩:=y;obtain⟨⟨b⟩⟩:=z
 simp
theorem vY:MtM X "list.index" aNk:=by
 intro pins s σ H x vs v us Q I rx rv h;obtain⟨l,ss,z,j,rfl,rfl,hH,hj,hm,q⟩:=h;cases rx;obtain⟨u,rfl,ru⟩:=rv.one;obtain⟨tz,rfl⟩:=ru;obtain⟨zz,its,n,r,hl,e⟩:=I.lstM hH;have r2:∀ (i:Nat) (u:Value),its[i]?=some u->∃ y t,ss[i]?=some y/\u=.str y t:=λi u h=>aMy r i u (by simpa using h);have r1:ss.length=its.length:=by rw[<- xAa (f:=V.str)]; exact Paired.length r
 have sl:sizeLine=16777216:=sizeLine_eq;have hjl:=(xAd.mp hj).1;rw[xAa] at zz;have hji:j<its.length:=by omega
 refine call_meets F.slot_list_index ⟨_,e,rfl⟩ F.entry_list_index (F.args_list_index_2 _ _) (MeetsSeq.list_index l _ n (.str z tz) (eqS z) (λy hy=>?_) j (by simpa using hji) (by omega) ?_ λm h1 h2=>?_) ⟨e,.int _,H,I.tok _,⟨_,rfl⟩,q⟩
 ·obtain⟨i,hi⟩:=xDk (show y∈its by simpa using hy);obtain⟨y',t,_,rfl⟩:=r2 i y hi;exact SeqRoads2.EqGives.str y' z t tz
 ·obtain⟨y',t,e1,e2⟩:=r2 j _ (xAe hji);rw[hj] at e1;cases e1;simp only[List.getElem_toArray];rw[e2];exact aEu.mpr rfl
 ·have hmi:m<its.length:=by simpa using h1
  obtain⟨y',t,e1,e2⟩:=r2 m _ (xAe hmi);simp only[List.getElem_toArray];rw[e2];exact xCb.mpr λq=>hm m h2 (by rw[e1,aEu.mp q])
structure aSj (K:xAb)(C:Addr):Prop where
 cl:Cls K C
 ha:findIn K (.ref C) "__class__" = some (some (.builtin "object.__class__"))
 hn:specialIn K (.builtin "object.__class__") "__get__" = some (some (.builtin "getset_descriptor.__get__"))
 tk:takesIn K (.builtin "object.__class__")=some true
 hm:mroIn K C (.type "object")=some true
inductive aYe (K:xAb)(xs:List V)(H:Hp)(Q:VK):Prop
 | mk (x C dx:Addr)(fs:List (Str×V))(c:V)(cv:Value)(b:Bool)(h0_:xs=[.ref x,c])(h1_:∀ u,cO c u->u=cv)(h2_:H x=some (.ins C dx fs))(h3_:aSj K C)(h4_:kitOne K (.ref C) cv=some b)(h5_:Q (.bl b) H)
theorem aHo:CallR X (.builtin "isinstance") (aYe X.K):=by
 intro pins s σ H xs us Q I r h;obtain⟨x,C,dx,fs,c,cv,b,rfl,hc,hx,T,hb,q⟩:=h;obtain⟨u,w',rfl,rx,rc⟩:=aHz r;cases rx;have ec:=hc w' rc;subst ec;obtain⟨mA,O,_⟩:=nO I.hok hx;obtain⟨od,J,_⟩:=O.look;exact kia_one (kitx_own (T.cl.get _) T.cl.hd T.ha T.hn T.tk T.hm) I.kIn J hb (λz=>nomatch z) λtk=>⟨.bl b,H,I.tok tk,rfl,q⟩
theorem aTs {e:Expr}{t t':TE}(h:∀ σ H Q,t' σ H Q->t σ H Q)(p:PE X e t):PE X e t':=λpins s σ H Q I q=>p pins s σ H Q I (h σ H Q q)
end
end L2
namespace RW
def mixed (c k:Int):Int:=(((c+7919*k)*48271%2147483647)*((c+7919*k)*48271%2147483647+2*k+1))%2147483629
def cellAt (ns:List Int)(k:Nat):Int:=match ns[k]? with | some c=>mixed c k | none=>0
end RW
namespace KM
variable {α:Type} [DecidableEq α]
end KM
namespace Ky
open PySem L2 PySem.Spec PyProof.Rows PySem.W
abbrev jT:Str:="abcdefghijklmnopqrstuvwxyz"
abbrev lF:Str:="0123456789"
theorem aCy:jT.cps.toList=List.range' 97 26:=by decide +kernel
theorem aDe:lF.cps.toList=List.range' 48 10:=by decide +kernel
def mI (c:Nat):Bool:=decide (97<=c/\c<123)
def aLo (c:Nat):Bool:=decide (48<=c/\c<58)
def oP (c:Nat):Bool:=mI c||aLo c
theorem rR (c:Nat):decide (c∈jT.cps.toList)=mI c:=by
 rw[aCy];unfold mI;rw[xCq,List.mem_range'_1]
theorem aAa (c:Nat):decide (c∈lF.cps.toList)=aLo c:=by
 rw[aDe];unfold aLo;rw[xCq,List.mem_range'_1]
theorem uM (x y:Str):(x++y).cps.toList=x.cps.toList++y.cps.toList:=by
 show (x.cps++y.cps).toList=_
 simp
theorem iS (x y:Str):(x++y).length=x.length+y.length:=by
 have ln:∀ z:Str,z.cps.toList.length=z.length:=λz=>by simp[Str.length]
 rw[<- ln,uM,xAr,ln,ln]
theorem aGu (c:Nat):decide (c∈(jT++lF).cps.toList)=oP c:=by
 unfold oP;rw[<- rR,<- aAa,uM,<- Bool.decide_or,xCq,xBy]
def pP (cs:List Nat):Bool:=decide (1<=cs.length/\cs.length<=8)&&(match cs with | []=>false | c::_=>mI c)&&cs.all oP
def aW (z:Str):Bool:=pP z.cps.toList
theorem lY {z:Str}(h:aW z=true):z.length<=8:=by
 unfold aW pP at h;rw[xBh,xBh] at h
 have:=xAg h.1.1
 have hl:z.cps.toList.length=z.length:=by simp[Str.length]
 omega
inductive Why | noName | noDeed | twice | tooMany
 deriving DecidableEq
def uX:List Str->List Str->Option Why
 | _,[]=>none
 | seen,n::r=>if aW n=true then (if n∈seen then some .twice else uX (seen++[n]) r) else some .noName
def jP (ss:List Str):Option Why:=if 12<ss.length then some .tooMany else uX [] ss
def mO (ss fs:List Str):Option Why:=match jP ss with
 | some k=>some k
 | none=>if fs.all (λf=>aW f&&decide (f∈ss))=true then none else some .noDeed
def wts:List Str->Int->List (Key×V)->List (Key×V)
 | [],_,k=>k
 | s::r,w,k=>wts r (w*2) (gN k (Sum.inr s) (.int w))
def mks:List Str->List (Key×V)->List (Key×V)
 | [],k=>k
 | s::r,k=>mks r (gN k (Sum.inr s) (.bl true))
inductive oW (vs:List V)(H:Hp)(Q:VK)(x3_:XK):Prop
 | mk (c k:Int)(h0_:vs=[.int c,.int k])(h1_:Q (.int (RW.mixed c k)) H)
inductive aIp (K:xAb)(vs:List V)(H:Hp)(Q:VK)(x3_:XK):Prop
 | mk (a:Addr)(ns:List Int)(k:Nat)(h0_:vs=[.ref a,.int k])(h1_:SqL K H a (ns.map V.int))(h2_:Q (.int (RW.cellAt ns k)) H)
inductive tG (K:xAb)(vs:List V)(H:Hp)(Q:VK)(x3_:XK):Prop
 | mk (x:_)(h0_:vs=[x])(h1_:((∃ z,x=.str z/\z.length<=sizeLine/\∀ H',aP H H'->Q (.bl (aW z)) H')\/∃ t,jY K H x t/\kitOne K t (.type "str")=some false/\Q (.bl false) H))
def ways (cl:Why->Addr)(r:Option Why)(q:Prop)(E:XK)(H:Hp):Prop:=match r with
 | none=>q
 | some k=>E (.ref (cl k)) none H
def hZ (ss:List Str):Prop:=∀ z∈ss,z.length<=1000
inductive yN (K:xAb)(cl:Why->Addr)(vs:List V)(H:Hp)(Q:VK)(E:XK):Prop
 | mk (a:Addr)(ss:List Str)(h0_:vs=[.ref a])(h1_:SqL K H a (ss.map V.str))(h2_:hZ ss)(h3_:∀ H',aP H H'->ways cl (jP ss) (Q .non H') E H')
inductive vN (K:xAb)(vs:List V)(H:Hp)(Q:VK)(x3_:XK):Prop
 | mk (a:Addr)(ss:List Str)(h0_:vs=[.ref a])(h1_:SqL K H a (ss.map V.str))(h2_:ss.length<64)(h3_:∀ (d:Addr) (ss':List Str) H',aP H H'->H d=none->ss'.Perm ss->sortedS ss'=true->H' d=some (.dK (wts ss' 1 []))->Q (.ref d) H')
inductive sJ (K:xAb)(vs:List V)(H:Hp)(Q:VK)(x3_:XK):Prop
 | mk (a:Addr)(ss:List Str)(h0_:vs=[.ref a])(h1_:SqL K H a (ss.map V.str))(h2_:ss.length<=1000)(h3_:∀ (d:Addr) H',aP H H'->H d=none->H' d=some (.dK (mks ss []))->Q (.ref d) H')
abbrev aLc:List Str:=["has","require","names","free","is_free","bits","names_of"]
inductive WAt (C:Addr)(H:Hp)(p:Addr)(kvs:List (Key×V)):Prop
 | mk (dx:_)(fs:_)(dw:_)(o:_)(h0_:H p=some (.ins C dx fs))(h1_:(∀ m∈aLc,fs.lookup m=none))(h2_:fs.lookup ("weights" : Str)=some (.ref dw))(h3_:H dw=some (.frz o (.dK kvs)))
def aAs (x:V):Prop:=(∃ z:Str,x=.str z/\z.length<=1000)\/x=.non\/x=.int 5
def cY (kvs:List (Key×V)):V->Bool
 | .str z=>aW z&&(dN kvs (Sum.inr z)).isSome
 | _=>false
inductive aPh (K:xAb)(C:Addr)(vs:List V)(H:Hp)(Q:VK)(x3_:XK):Prop
 | mk (p:Addr)(x:V)(kvs:List (Key×V))(h0_:vs=[.ref p,x])(h1_:aAs x)(h2_:WAt C H p kvs)(h3_:∀ H',aP H H'->Q (.bl (cY kvs x)) H')
inductive iC (K:xAb)(C:Addr)(cl:Why->Addr)(vs:List V)(H:Hp)(Q:VK)(E:XK):Prop
 | mk (p b:Addr)(xs:List V)(kvs:List (Key×V))(h0_:vs=[.ref p,.ref b])(h1_:SqL K H b xs)(h2_:(∀ x∈xs,aAs x))(h3_:WAt C H p kvs)(h4_:∀ H',aP H H'->ways cl (if xs.all (cY kvs)=true then none else some .noDeed) (Q .non H') E H')
def SameBut (x:Addr)(H H':Hp):Prop:=∀ b o,b≠x->H b=some o->H' b=some o
inductive aBh (K:xAb)(C:Addr)(cl:Why->Addr)(vs:List V)(H:Hp)(Q:VK)(E:XK):Prop
 | mk (x a:Addr)(y:V)(dx:Addr)(ss fs:List Str)(h0_:vs=[.ref x,.ref a,y])(h1_:H x=some (.ins C dx []))(h2_:SqL K H a (ss.map V.str))(h3_:((y=.non/\fs=[])\/∃ b,y=.ref b/\SqL K H b (fs.map V.str)))(h4_:hZ ss)(h5_:hZ fs)(h6_:fs.length<=1000)(h7_:∀ H',SameBut x H H'->ways cl (mO ss fs) (∀ (dw df:Addr) (o:Obj) (ss':List Str),H' x=some (.ins C dx [("weights",.ref dw),("free_marks",.ref df)])->H' dw=some (.frz o (.dK (wts ss' 1 [])))->H' df=some (.dK (mks fs []))->ss'.Perm ss->sortedS ss'=true->Q .non H') E H')
section
variable {P:Program}{w:World}{K:xAb}{mg:xSO}{base:Heap}
theorem okE {x qual:Str}{st:Stmt}{f:Addr}{fd:FuncData}{N ps:List Str}{k:Nat}{sp:Sp}(F:Fun K x qual st f fd)(S:aR N ps (aB st))(len:∀ vs H Q E,sp vs H Q E->vs.length=ps.length)
  (hbody:∀ (cdv:Value) (A:Around) (outer:List Env) (s:Shared) (H:Hp) (vs:List V) (Q:VK) (E:XK),cM k (A.deeper (envOfC qual (aB st) s.heap.objs.size f cdv))->sp vs H Q E ->
   (lG (CXE P w) P w K mg base N qual (aB st) f cdv A outer s H E).Body E ->
   ∃ t,PSs (lG (CXE P w) P w K mg base N qual (aB st) f cdv A outer s H E) (aG st) t/\t { nx:=λ_ H'=>Q .non H',rt:=Q } (jO N vs) H):aQ P w K mg base (CXE P w) (k+1) f fd ps sp:=by
 obtain⟨oc,od,kV,doc,pm,an,cdv,ct,osl,rfl,lk,hcd⟩:=F.ex;exact aEr lk hcd S len λA outer s H vs Q E hr hsp=>hbody cdv A outer s H vs Q E hr hsp sQ
structure aMo (K:xAb)(x qual:Str)(st:Stmt)(f:Addr)(fd:FuncData):Prop where
 ex:∃ (oc:Value) (od:Option Addr) (dV kV doc pm:Value) (an:Option Addr) (cdv ct:Value) (osl:xAO),
  fd=fnOf x qual (aH st) (aG st) (aB st) dV kV doc pm an cdv ct/\K.lookup f=some ⟨oc,od,.func fd,osl⟩/\codeIn K cdv qual=true
 kp:keepIn K (.ref f)=true
theorem aTv {x qual:Str}{st:Stmt}{f:Addr}{fd:FuncData}{N ps:List Str}{k:Nat}{sp:Sp}(F:aMo K x qual st f fd)(S:aR N ps (aB st))(len:∀ vs H Q E,sp vs H Q E->vs.length=ps.length)
  (hbody:∀ (cdv:Value) (A:Around) (outer:List Env) (s:Shared) (H:Hp) (vs:List V) (Q:VK) (E:XK),cM k (A.deeper (envOfC qual (aB st) s.heap.objs.size f cdv))->sp vs H Q E ->
   (lG (CXE P w) P w K mg base N qual (aB st) f cdv A outer s H E).Body E ->
   ∃ t,PSs (lG (CXE P w) P w K mg base N qual (aB st) f cdv A outer s H E) (aG st) t/\t { nx:=λ_ H'=>Q .non H',rt:=Q } (jO N vs) H):aQ P w K mg base (CXE P w) (k+1) f fd ps sp:=by
 obtain⟨oc,od,dV,kV,doc,pm,an,cdv,ct,osl,rfl,lk,hcd⟩:=F.ex;exact aEr lk hcd S len λA outer s H vs Q E hr hsp=>hbody cdv A outer s H vs Q E hr hsp sQ
end
abbrev Dr:=Str×Str×Str
structure cQ (H:Hp)(d:Addr)(ds:List Dr):Prop where
 ex:∃ ts:List Addr,H d=some (.lst (ts.map V.ref))/\ts.length=ds.length/\∀ (i:Nat) (t:Addr) (x:Dr),ts[i]?=some t->ds[i]?=some x->H t=some (.tup [.str x.1,.str x.2.1,.str x.2.2])
theorem cQ.same {H H':Hp}{d:Addr}{ds:List Dr}(D:cQ H d ds)(sm:aP H H'):cQ H' d ds:=by
 obtain⟨ts,h1,h2,h3⟩:=D.ex;exact⟨ts,sm _ _ h1,h2,λi t x a b=>sm _ _ (h3 i t x a b)⟩
theorem smu {H:Hp}{p:Addr}{o:HO}(h:H p=none):aP H (upd H p o):=λb u e=>by
 rw[aL (aI e h)];exact e
theorem iL {n:Nat}(h:n<=16000000):n<=sizeLine:=xAn h (by decide)
def fJ (ds:List Dr):List Str:=ds.flatMap λx=>[x.1,x.2.2]
def cC (b:Str)(es:List Str)(ds:List Dr):List Str:=b::es++fJ ds
theorem uI {ds:List Dr}{i:Nat}{x:Dr}(h:ds[i]?=some x):fJ (ds.take (i+1))=fJ (ds.take i)++[x.1]++[x.2.2]:=by
 unfold fJ;rw[xBf,h]
 simp
theorem oB (ds:List Dr):(fJ ds).length=2*ds.length:=by
 induction ds with
 | nil=>rfl
 | cons x r ih => 
  have e:fJ (x::r)=[x.1,x.2.2]++fJ r:=rfl;have h2:([x.1,x.2.2]:List Str).length=2:=rfl;rw[e,xAr,ih,h2,xBm];omega
inductive aDx (vs:List V)(H:Hp)(Q:VK)(E:XK):Prop
 | mk (b:Str)(e d:Addr)(es:List Str)(ds:List Dr)(h0_:vs=[.str b,.ref e,.ref d])(h1_:H e=some (.lst (es.map V.str)))(h2_:cQ H d ds)(h3_:es.length<=1000)(h4_:ds.length<=1000)
  (h5_:∀ (p:Addr) H',aP H H'->H p=none->H' p=some (.lst ((cC b es ds).map V.str))->Q (.ref p) H')
def jJ (ss:List Str):Option Why:=if ss.all aW=true then none else some .noName
inductive tF (K:xAb)(cl:Why->Addr)(vs:List V)(H:Hp)(Q:VK)(E:XK):Prop
 | mk (a:Addr)(ss:List Str)(h0_:vs=[.ref a])(h1_:SqL K H a (ss.map V.str))(h2_:hZ ss)(h3_:∀ H',aP H H'->ways cl (jJ ss) (Q .non H') E H')
theorem vB {ss:List Str}{i:Nat}(h:(ss.take i).all aW=true):jJ ss=jJ (ss.drop i):=by
 unfold jJ
 have e:ss.all aW=(ss.drop i).all aW:=by
  conv=>lhs; rw[<- List.take_append_drop i ss]
  rw[xHu,h,xFc]
 rw[e]
def inn (ds:List Dr)(z:Str):List (Key×V):=ds.filterMap λx=>if x.1=z then some (Sum.inr x.2.1,V.str x.2.2) else none
theorem aOo (ds:List Dr)(z:Str):(inn ds z).length<=ds.length:=xDo ..
theorem aAd {ds:List Dr}{i:Nat}{x:Dr}(h:ds[i]?=some x)(z:Str):inn (ds.take (i+1)) z=inn (ds.take i) z++(if x.1=z then [(Sum.inr x.2.1,V.str x.2.2)] else []):=by
 unfold inn;rw[xBf,h,xDf]
 by_cases e:x.1=z
 ·simp[e]
 ·simp[e]
theorem aFf {kvs:List (Key×V)}{k:Key}(h:∀ p∈kvs,p.1≠k):dN kvs k=none:=by
 unfold dN;rw[xFk.mpr (λp hp=>by simpa using h p hp)];rfl
theorem aAe {ds:List Dr}{z y:Str}(h:∀ x∈ds,x.1=z->x.2.1≠y):dN (inn ds z) (Sum.inr y)=none:=by
 refine aFf λp hp=>?_;obtain⟨x,hx,e⟩:=xCd.mp hp
 by_cases ez:x.1=z
 ·rw[xAu ez] at e;cases e;exact λq=>h x hx ez (Sum.inr.inj q)
 ·rw[xAt ez] at e;cases e
def Apart (ds:List Dr):Prop:=(ds.map λx=>(x.1,x.2.1)).Nodup
theorem Apart.at {ds:List Dr}(h:Apart ds){i:Nat}{x:Dr}(hx:ds[i]?=some x):∀ y∈ds.take i,y.1=x.1->y.2.1≠x.2.1:=by
 intro y hy e1 e2;obtain⟨j,hj,ej⟩:=xEg.mp hy;rw[xBe] at hj;have hi:i<ds.length:=(xAd.mp hx).1;have hji:j<i:=by omega
 have ey:ds[j]?=some y:=by
  rw[List.getElem_take] at ej;rw[xAe (by omega),ej]
 have:=(xDa (i:=j) (j:=i) (by rw[xAa]; omega) h).mp (by rw[xAf,xAf,ey,hx]; show some (y.1,y.2.1)=some (x.1,x.2.1); rw[e1,e2])
 omega
theorem mX (kvs:List (Key×V))(k:Key):(kvs.any λkv=>decide (kv.1=k))=(kvs.map (·.1)).any λj=>decide (j=k):=by
 rw[xJc];rfl
theorem aFq {kvs kvs':List (Key×V)}(k:Key)(v v':V)(h:kvs.map (·.1)=kvs'.map (·.1)):(gN kvs k v).map (·.1)=(gN kvs' k v').map (·.1):=by
 have m:∀ (l:List (Key×V)) (u:V),(l.map λkv=>if kv.1=k then (kv.1,u) else kv).map (·.1)=l.map (·.1):=λl u=>by
  rw[xCy];refine xGt λp _=>?_;show (if p.1=k then (p.1,u) else p).1=p.1
  split <;> rfl
 unfold gN;rw[mX,mX,h]
 by_cases q:((kvs'.map (·.1)).any λj=>decide (j=k))=true
 ·rw[xAu q,xAu q,m,m,h]
 ·rw[xAt q,xAt q,xAm,xAm,h];rfl
theorem zV:∀ (a:List Str) (z:Str) (k:List (Key×V)),mks (a++[z]) k=gN (mks a k) (Sum.inr z) (.bl true)
 | [],z,k=>rfl
 | s::r,z,k=>zV r z _
structure eX (H:Hp)(l:Addr)(rs:List Str)(ds:List Dr)(kvs:List (Key×V))(g:Str->Addr):Prop where
 dk:H l=some (.dK kvs)
 keys:kvs.map (·.1)=(mks rs []).map (·.1)
 val:∀ z∈rs,dN kvs (Sum.inr z)=some (.ref (g z))
 dd:∀ z∈rs,H (g z)=some (.dK (inn ds z))
 inj:∀ z∈rs,∀ y∈rs,g z=g y->z=y
 ne:∀ z∈rs,g z≠l
theorem eX.same {H H':Hp}{l:Addr}{rs:List Str}{ds:List Dr}{kvs:List (Key×V)}{g:Str->Addr}(L:eX H l rs ds kvs g)(sm:aP H H'):eX H' l rs ds kvs g:=
 ⟨sm _ _ L.dk,L.keys,L.val,λz hz=>sm _ _ (L.dd z hz),L.inj,L.ne⟩
theorem eX.more {H:Hp}{l d:Addr}{rs:List Str}{kvs:List (Key×V)}{g:Str->Addr}(L:eX H l rs [] kvs g)(hd:H d=none)(z:Str) :
  eX (upd (upd H d (.dK [])) l (.dK (gN kvs (Sum.inr z) (.ref d)))) l (rs++[z]) [] (gN kvs (Sum.inr z) (.ref d)) (λy=>if y=z then d else g y):=by
 have dl:d≠l:=λe=>by rw[e,L.dk] at hd; cases hd
 have gd:∀ y∈rs,g y≠d:=λy hy e=>by have:=L.dd y hy; rw[e,hd] at this; cases this
 have mem:∀ y∈rs++[z],y≠z->y∈rs:=λy hy n=>(xBy.mp hy).resolve_right λq=>n (xAi.mp q);refine⟨aE,?_,λy hy=>?_,λy hy=>?_,λy hy x hx e=>?_,λy hy=>?_⟩
 ·rw[zV]; exact aFq _ _ _ L.keys
 ·rw[lK]
  by_cases e:y=z
  ·subst e;rw[xAu rfl,xAu rfl]
  ·rw[xAt (λq=>e (Sum.inr.inj q)),xAt e];exact L.val y (mem y hy e)
 ·by_cases e:y=z
  ·subst e;rw[xAu rfl,aL dl,aE];rfl
  ·rw[xAt e,aL (L.ne y (mem y hy e)),aL (gd y (mem y hy e))];exact L.dd y (mem y hy e)
 ·by_cases e1:y=z
  ·by_cases e2:x=z
   ·rw[e1,e2]
   ·rw[xAu e1,xAt e2] at e;exact xAz e.symm (gd x (mem x hx e2))
  ·by_cases e2:x=z
   ·rw[xAt e1,xAu e2] at e;exact xAz e (gd y (mem y hy e1))
   ·rw[xAt e1,xAt e2] at e;exact L.inj y (mem y hy e1) x (mem x hx e2) e
 ·by_cases e:y=z
  ·rw[xAu e]; exact dl
  ·rw[xAt e]; exact L.ne y (mem y hy e)
theorem eX.door {H:Hp}{l:Addr}{rs:List Str}{ds:List Dr}{kvs:List (Key×V)}{g:Str->Addr}{i:Nat}{x:Dr}(L:eX H l rs (ds.take i) kvs g)(hx:ds[i]?=some x)(hr:x.1∈rs)(ha:Apart ds) :
  eX (upd H (g x.1) (.dK (gN (inn (ds.take i) x.1) (Sum.inr x.2.1) (.str x.2.2)))) l rs (ds.take (i+1)) kvs g:=by
 refine⟨?_,L.keys,L.val,λz hz=>?_,L.inj,L.ne⟩
 ·rw[aL (Ne.symm (L.ne _ hr))]; exact L.dk
 ·by_cases e:z=x.1
  ·subst e;rw[aE,aAd hx,xAu rfl,aJf _ (aAe (ha.at hx))]
  ·rw[aL (λq=>e (L.inj z hz _ hr q)),aAd hx,xAt (λq=>e q.symm),xBo];exact L.dd z hz
inductive aDy (K:xAb)(vs:List V)(H:Hp)(Q:VK)(E:XK):Prop
 | mk (a d:Addr)(rs:List Str)(ds:List Dr)(h0_:vs=[.ref a,.ref d])(h1_:SqL K H a (rs.map V.str))(h2_:cQ H d ds)(h3_:rs.length<=4000)(h4_:ds.length<=1000)(h5_:∀ x∈ds,x.1∈rs)(h6_:Apart ds)
  (h7_:∀ (l:Addr) (kvs:List (Key×V)) (g:Str->Addr) H',aP H H'->H l=none->(∀ z∈rs,H (g z)=none)->eX H' l rs ds kvs g->Q (.ref l) H')
theorem aEi {X:Cx}{st:Stmt}:PS X st (λ_ _ _=>False):=λ_ _ _ _ _ _ h=>h.elim
def aZ (ds:List Dr)(ms:List Str):List Str:=ds.map (·.2.1)++ms
abbrev aPs:List Str:=["deeds","begin","rooms","ends","knows","require_room","at","to","is_end","goes","behind"]
abbrev aPt (l dd e k:Addr)(b:Str):List (Str×V):=[("leads",.ref l),("deeds_made_of",.ref dd),("first_room",.str b),("end_marks",.ref e),("known_marks",.ref k)]
theorem cZ (l dd e k:Addr)(b:Str):∀ m∈aPs,(aPt l dd e k b).lookup m=none:=by
 have h:∀ m∈aPs,(m==("leads" : Str))=false/\(m==("deeds_made_of" : Str))=false/\(m==("first_room" : Str))=false/\(m==("end_marks" : Str))=false/\(m==("known_marks" : Str))=false:=by decide +kernel
 intro m hm;obtain⟨h1,h2,h3,h4,h5⟩:=h m hm;simp only[List.lookup,h1,h2,h3,h4,h5]
structure MAt (CM:Addr)(H:Hp)(x dx l dd e k:Addr)(b:Str)(es kn:List Str)(ds:List Dr)(kvs:List (Key×V))(g:Str->Addr):Prop where
 ins:H x=some (.ins CM dx (aPt l dd e k b))
 lead:eX H l (cC b es ds) ds kvs g
 ends:H e=some (.dK (mks es []))
 know:H k=some (.dK (mks kn []))
theorem MAt.same {CM:Addr}{H H':Hp}{x dx l dd e k:Addr}{b:Str}{es kn:List Str}{ds:List Dr}{kvs:List (Key×V)}{g:Str->Addr}(M:MAt CM H x dx l dd e k b es kn ds kvs g)(sm:aP H H'):MAt CM H' x dx l dd e k b es kn ds kvs g:=
 ⟨sm _ _ M.ins,M.lead.same sm,sm _ _ M.ends,sm _ _ M.know⟩
structure kJ (K:xAb)(CM:Addr):Prop where
 cl:Cls K CM
 nl:dD K CM "leads"
 nd:dD K CM "deeds_made_of"
 nf:dD K CM "first_room"
 ne:dD K CM "end_marks"
 nk:dD K CM "known_marks"
inductive oX (K:xAb)(C CM:Addr)(vs:List V)(H:Hp)(Q:VK)(E:XK):Prop
 | mk (x dd e d dx:Addr)(b:Str)(y:V)(es ms:List Str)(ds:List Dr)(wk:List (Key×V))(h0_:vs=[.ref x,.ref dd,.str b,.ref e,.ref d,y])(h1_:H x=some (.ins CM dx []))(h2_:WAt C H dd wk)
  (h3_:H e=some (.lst (es.map V.str)))(h4_:cQ H d ds)(h5_:(y=.non/\ms=[])\/∃ m,y=.ref m/\H m=some (.lst (ms.map V.str)))
  (h6_:es.length<=200/\ds.length<=800/\ms.length<=200)(h7_:(cC b es ds).all aW=true)(h8_:((aZ ds ms).map V.str).all (cY wk)=true)(h9_:hZ (aZ ds ms))(h10_:Apart ds)(h11_:(mks (cC b es ds) []).length<=60)
  (h12_:∀ (l e' k:Addr) (kvs:List (Key×V)) (g:Str->Addr) H',SameBut x H H'->MAt CM H' x dx l dd e' k b es (aZ ds ms) ds kvs g->Q .non H')
theorem tI {ss:List Str}(h:ss.all aW=true):hZ ss:=λz hz=>xAn (lY (xBj.mp h z hz)) (by decide)
theorem aLy {b:Str}{es:List Str}{ds:List Dr}:∀ x∈ds,x.1∈cC b es ds:=λx hx=>xBn _ (xBs.mpr ⟨x,hx,by simp⟩)
theorem yV (b:Str)(es:List Str)(ds:List Dr):(cC b es ds).length=1+es.length+2*ds.length:=by
 unfold cC;rw[xAr,oB,xBm];omega
inductive MM (CM:Addr)(H:Hp)(x dd:Addr)(b:Str)(es kn:List Str)(ds:List Dr):Prop
 | mk (dx l e k:Addr)(kvs:List (Key×V))(g:Str->Addr)(m:MAt CM H x dx l dd e k b es kn ds kvs g)
theorem MM.same {CM:Addr}{H H':Hp}{x dd:Addr}{b:Str}{es kn:List Str}{ds:List Dr}(M:MM CM H x dd b es kn ds)(sm:aP H H'):MM CM H' x dd b es kn ds:=by
 obtain⟨dx,l,e,k,kvs,g,m⟩:=M;exact⟨dx,l,e,k,kvs,g,m.same sm⟩
def cF (ds:List Dr)(z y:Str):Option Str:=(ds.find? λx=>decide (x.1=z)&&decide (x.2.1=y)).map (·.2.2)
theorem aOm {x:Dr}{r:List Dr}{z:Str}(e:x.1=z):inn (x::r) z=(Sum.inr x.2.1,V.str x.2.2)::inn r z:=by simp[inn,e]
theorem aOn {x:Dr}{r:List Dr}{z:Str}(e:¬ x.1=z):inn (x::r) z=inn r z:=by simp[inn,e]
theorem aOl (ds:List Dr)(z y:Str):dN (inn ds z) (Sum.inr y)=(cF ds z y).map V.str:=by
 induction ds with
 | nil=>rfl
 | cons x r ih=>
  unfold cF at ih ⊢;rw[xCm]
  by_cases e:x.1=z
  ·rw[aOm e]
   by_cases e2:x.2.1=y
   ·rw[eY (by show Sum.inr x.2.1=_; rw[e2]),xAk e,xAk e2];rfl
   ·have:dN ((Sum.inr x.2.1,V.str x.2.2)::inn r z) (Sum.inr y)=dN (inn r z) (Sum.inr y):=by
     unfold dN;rw[xCm,xBb (λq=>e2 (Sum.inr.inj q))]
    rw[this,ih,xAk e,xBb e2];rfl
  ·rw[aOn e,xBb e,xEr,ih]
inductive tH (CM:Addr)(vs:List V)(H:Hp)(Q:VK)(E:XK):Prop
 | mk (x dd:Addr)(b:Str)(es kn:List Str)(ds:List Dr)(h0_:vs=[.ref x])(h1_:MM CM H x dd b es kn ds)(h2_:Q (.str b) H)
def oV (o:Option Str):V:=(o.map V.str).getD .non
def gH (ds:List Dr)(kn:List Str)(z y:Str):Option Str:=if y∈kn then cF ds z y else some z
inductive wS (CM:Addr)(vs:List V)(H:Hp)(Q:VK)(E:XK):Prop
 | mk (x dd:Addr)(b z y:Str)(es kn:List Str)(ds:List Dr)(h0_:vs=[.ref x,.str z,.str y])(h1_:MM CM H x dd b es kn ds)(h2_:z∈cC b es ds)(h3_:Q (oV (gH ds kn z y)) H)
def walk (ds:List Dr)(kn:List Str)(z:Str):List Str->Option Str
 | []=>some z
 | y::r=>match gH ds kn z y with
  | none=>none
  | some z'=>walk ds kn z' r
inductive qI (K:xAb)(C CM:Addr)(cl:Why->Addr)(vs:List V)(H:Hp)(Q:VK)(E:XK):Prop
 | mk (x dd a:Addr)(b:Str)(es kn rw:List Str)(ds:List Dr)(wk:List (Key×V))(h0_:vs=[.ref x,.ref a])(h1_:MM CM H x dd b es kn ds)(h2_:WAt C H dd wk)(h3_:SqL K H a (rw.map V.str))(h4_:hZ rw)(h5_:(cC b es ds).all aW=true)
  (h6_:∀ H',aP H H'->ways cl (if (rw.map V.str).all (cY wk)=true then none else some .noDeed) (Q (oV (walk ds kn b rw)) H') E H')
theorem aDf {ds:List Dr}{b:Str}{es:List Str}{z y u:Str}(h:cF ds z y=some u):u∈cC b es ds:=by
 unfold cF at h;obtain⟨x,hx,rfl⟩:=xDv.mp h;exact xBn _ (xBs.mpr ⟨x,xCt hx,by simp⟩)
theorem uF {ds:List Dr}{kn:List Str}{b:Str}{es:List Str}{z y u:Str}(hz:z∈cC b es ds)(h:gH ds kn z y=some u):u∈cC b es ds:=by
 unfold gH at h
 by_cases q:y∈kn
 ·rw[xAu q] at h; exact aDf h
 ·rw[xAt q] at h; cases h; exact hz
theorem cQ.push {H:Hp}{d t:Addr}{ds:List Dr}(D:cQ H d ds)(ht:H t=none)(x:Dr):∃ xs,H d=some (.lst xs)/\xs.length=ds.length/\cQ (upd (upd H t (.tup [.str x.1,.str x.2.1,.str x.2.2])) d (.lst (xs++[.ref t]))) d (ds++[x]):=by
 obtain⟨ts,h1,h2,h3⟩:=D.ex;refine⟨_,h1,by rw[xAa,h2],⟨ts++[t],?_,?_,λi u y hu hy=>?_⟩⟩
 ·rw[aE,xAm]; rfl
 ·rw[xAr,xAr,h2]; rfl
 ·by_cases hi:i<ts.length
  ·rw[xBz hi] at hu;rw[xBz (by rw[<- h2]; exact hi)] at hy;have e:=h3 i u y hu hy;rw[aL (λz=>by rw[z,h1] at e; cases e),aL (aI e ht)];exact e
  ·have hl:i=ts.length:=by
    have:=(xAd.mp hu).1
    rw[xAr] at this;simp only[List.length_cons,List.length_nil] at this;omega
   subst hl;rw[xCf (xAl _),xFj] at hu;rw[h2,xCf (xAl _),xFj] at hy;cases hu;cases hy;rw[aL (λz=>by rw[z,h1] at ht; cases ht),aE]
theorem cQ.rev {H:Hp}{d:Addr}{ds:List Dr}(D:cQ H d ds):∃ xs,H d=some (.lst xs)/\xs.length=ds.length/\cQ (upd H d (.lst xs.reverse)) d ds.reverse:=by
 obtain⟨ts,h1,h2,h3⟩:=D.ex;refine⟨_,h1,by rw[xAa,h2],⟨ts.reverse,?_,?_,λi u y hu hy=>?_⟩⟩
 ·rw[aE,List.map_reverse]
 ·rw[xEj,xEj,h2]
 ·have hi:i<ts.length:=by have:=(xAd.mp hu).1; rw[xEj] at this; exact this
  rw[xJb hi] at hu;rw[xJb (by rw[<- h2]; exact hi),<- h2] at hy;have e:=h3 _ u y hu hy;rw[aL (λz=>by rw[z,h1] at e; cases e)];exact e
def tT (p:Nat->Bool)(ss:List Str)(i:Nat):List Str:=(List.range i).filterMap λk=>if p k=true then ss[k]? else none
theorem iW {p:Nat->Bool}{ss:List Str}{i:Nat}{z:Str}(h:ss[i]?=some z):tT p ss (i+1)=tT p ss i++(if p i=true then [z] else []):=by
 unfold tT;rw[xCu,xDf]
 by_cases e:p i=true
 ·simp[e,h]
 ·simp[e]
theorem lS (p:Nat->Bool)(ss:List Str)(i:Nat):(tT p ss i).length<=i:=by
 refine xAn (xDo ..) ?_;rw[xBu];exact xAl _
theorem zD {p:Nat->Bool}{ss:List Str}{i:Nat}:∀ z∈tT p ss i,z∈ss:=λz hz=>by
 obtain⟨k,_,e⟩:=xCd.mp hz
 by_cases q:p k=true
 ·rw[xAu q] at e; exact xBa e
 ·rw[xAt q] at e; cases e
end Ky
namespace K35
open PySem L2 Ky PySem.W
seal L2.PE L2.PS L2.PSs L2.PA L2.PT L2.PW L2.PG L2.PI L2.PTs L2.OpR L2.IxR L2.CallR L2.MtM L2.MtR
def top (i:Nat):Stmt:=PySem.Challenge.pw_roomward_k35_told_machines.main.body.getD i (.Pass ⟨0,0,0,0⟩)
abbrev oZ:Stmt:=top 14
abbrev wX:Stmt:=top 15
abbrev tJ:Stmt:=top 16
abbrev aBo:Stmt:=top 17
abbrev aBs:Stmt:=top 18
abbrev aBn:Stmt:=top 21
abbrev qK:Stmt:=top 22
abbrev aBp:Stmt:=top 23
abbrev gD:Stmt:=top 24
abbrev wW:Stmt:=top 26
abbrev wZ:Stmt:=top 27
abbrev pC:Stmt:=top 30
abbrev wY:Stmt:=top 31
abbrev pD:Stmt:=top 32
abbrev tM:Stmt:=top 33
abbrev kU:Stmt:=top 34
abbrev pA:Stmt:=top 35
abbrev aBl:Stmt:=top 40
abbrev aPm:Stmt:=top 41
abbrev aBm:Stmt:=top 42
abbrev aIx:Stmt:=top 43
abbrev aIv:Stmt:=top 44
abbrev aIz:Stmt:=top 45
abbrev aIu:Stmt:=top 46
abbrev aPn:Stmt:=top 47
abbrev aEg:Stmt:=top 48
abbrev aNg:Stmt:=top 49
abbrev aPl:Stmt:=top 50
abbrev aBq:Stmt:=top 51
abbrev tL:Stmt:=top 53
abbrev aIy:Stmt:=top 54
abbrev lO:Stmt:=top 55
abbrev pB:Stmt:=top 56
abbrev oY:Stmt:=top 57
abbrev iD:Stmt:=top 58
abbrev wV:Stmt:=top 59
abbrev xA:Stmt:=top 60
abbrev aIw:Stmt:=top 61
abbrev aBr:Stmt:=top 64
abbrev aQx:Stmt:=top 65
abbrev aNe:Stmt:=top 66
abbrev sK:Stmt:=top 67
abbrev tN:Stmt:=top 68
abbrev gS:Stmt:=top 69
abbrev aQy:Stmt:=top 70
abbrev jB:Stmt:=aD aBs 0
abbrev aNf:Stmt:=aD aBs 3
abbrev tK:Stmt:=aD aBs 4
abbrev iM:Stmt:=aD gD 0
abbrev aCw:Stmt:=aD gD 1
abbrev aCx:Stmt:=aD gD 2
abbrev aCt:Stmt:=aD gD 3
abbrev aLi:Stmt:=aD gD 4
abbrev aCu:Stmt:=aD gD 5
abbrev uB:Stmt:=aD gD 6
abbrev mTo:Stmt:=aD gD 8
abbrev aCv:Stmt:=aD gD 9
abbrev aLh:Stmt:=aD gD 10
abbrev xO:Stmt:=aD gD 11
abbrev aHx:Stmt:=aD kU 0
abbrev aAz:Stmt:=aD kU 1
abbrev aBa:Stmt:=aD kU 2
abbrev aAx:Stmt:=aD kU 3
abbrev wAt:Stmt:=aD kU 4
abbrev wTo:Stmt:=aD kU 5
abbrev aAy:Stmt:=aD kU 6
abbrev aDq:Stmt:=aD kU 7
abbrev iA:Stmt:=aD kU 8
abbrev xD:Stmt:=aD aPm 0
abbrev pG:Stmt:=aD aPm 1
abbrev aLb:Stmt:=aD aBm 0
abbrev aCp:Stmt:=aD aBm 1
abbrev aLa:Stmt:=aD aBm 2
abbrev aKw:Stmt:=aD aIx 0
abbrev aCn:Stmt:=aD aIx 1
abbrev zO:Stmt:=aD aIx 2
abbrev aIf:Stmt:=aD aIv 0
abbrev qG:Stmt:=aD aIv 1
abbrev aMh:Stmt:=aD aIz 0
abbrev aMg:Stmt:=aD aIz 1
abbrev aIb:Stmt:=aD aIu 0
abbrev aIa:Stmt:=aD aIu 1
abbrev aLq:Stmt:=aD aPn 0
abbrev aLp:Stmt:=aD aPn 1
abbrev aDl:Stmt:=aD aEg 0
abbrev aDk:Stmt:=aD aEg 1
abbrev aLm:Stmt:=aD aNg 0
abbrev xP:Stmt:=aD aNg 1
abbrev aAc:Stmt:=aD aNg 2
abbrev aEn:Stmt:=aD aNg 3
abbrev aLx:Stmt:=aD aPl 0
abbrev aLw:Stmt:=aD aPl 1
structure Txt (K:xAb)(mg:xSO):Prop where
 lett:∃ t,mg "LETTERS"=some (.str jT t)
 figu:∃ t,mg "FIGURES"=some (.str lF t)
 most:∃ t,mg "MOST_SIGNS"=some (.int 8 t)
 deeds:∃ t,mg "MOST_DEEDS"=some (.int 12 t)
 isi:mg "isinstance"=none
 str:mg "str"=none
 bool:mg "bool"=none
 int:mg "int"=none
 len:mg "len"=none
 all:mg "all"=none
 range:mg "range"=none
 sorted:mg "sorted"=none
 list:mg "list"=none
 enum:mg "enumerate"=none
section
variable {P:Program}{w:World}{K:xAb}{mg:xSO}{base:Heap}
theorem scM:aR ["_law_cell","_law_k","_law_one"] ["_law_cell","_law_k"] (aB tL):=xfs
theorem pL {f:Addr}{fd:FuncData}(F:Fun K "_law_mixed" "_law_mixed" tL f fd):aQ P w K mg base CX0 1 f fd ["_law_cell","_law_k"] oW:=by
 refine F.ok scM (λvs H Q E h=>?_) (λcdv A outer s H vs Q E hr h=>?_)
 ·obtain⟨c,k,rfl,_⟩:=h;rfl
 ·obtain⟨c,k,rfl,q⟩:=h
  refine⟨_,aJ (bJ (i:=2) scM.nd rfl (xAy rfl) (bV dQ (bV oJ (bV eK (pv 0) (bV oJ aN (pv 1))) aN) aN))
   (aM (aU (bV dQ (bV oJ (pv 2) (bV eK (bV eK (pv 2) (bV oJ aN (pv 1))) aN)) aN))),?_⟩
  refine⟨_,rfl,_,rfl,_,_,rfl,rfl,.inl ⟨by decide,by decide⟩,_,_,rfl,rfl,_,_,rfl,rfl,.inr ⟨by decide,by decide⟩,_,_,rfl,rfl,(by show (0:Int)<2147483647; decide),?_⟩;have h0:0<=(c+7919*k)*48271%2147483647:=Int.emod_nonneg _ (by decide);have h1:(c+7919*k)*48271%2147483647<2147483647:=Int.emod_lt_of_pos _ (by decide);refine⟨_,rfl,_,rfl,_,rfl,_,_,rfl,rfl,.inl ⟨by decide,by decide⟩,_,_,rfl,rfl,_,_,rfl,rfl,_,_,rfl,rfl,.inl ⟨?_,?_⟩,_,_,rfl,rfl,(by show (0:Int)<2147483629; decide),q⟩
  ·exact Int.lt_of_lt_of_le (by decide) h0
  ·exact Int.lt_of_lt_of_le h1 (by decide)
theorem scC:aR ["_law_script","_law_k"] ["_law_script","_law_k"] (aB aIy):=xfs
theorem aNy {f fM:Addr}{fd fdM:FuncData}(F:Fun K "_law_cell_at" "_law_cell_at" aIy f fd)(T:Txt K mg)(FM:Fun K "_law_mixed" "_law_mixed" tL fM fdM)(bM:aX K fdM ["_law_cell","_law_k"] [])(mM:mg "_law_mixed" = some (.ref fM)) :
  aQ P w K mg base CX0 2 f fd ["_law_script","_law_k"] (aIp K):=by
 have GM:aQ P w K mg base CX0 1 fM fdM ["_law_cell","_law_k"] oW:=pL FM;refine F.ok scC (λvs H Q E h=>?_) (λcdv A outer s H vs Q E hr h=>?_)
 ·obtain⟨a,ns,k,rfl,_⟩:=h;rfl
 ·obtain⟨a,ns,k,rfl,hS,q⟩:=h
  refine⟨_,aJ (cK (aV zM (pv 1) (cB cL (by rfl) T.len PySem.boot_len (iR (pv 0) aF)) (bC _))
    (aM (aU (bX GM hr rfl mM FM.kp bM .nil bZ (iR (cG dG (pv 0) (pv 1) (λ_ _=>rfl)) (iR (pv 1) aF))))) bS)
   (aM (aU aN)),?_⟩
  refine⟨_,rfl,_,rfl,a,_,rfl,.inl hS,_,_,rfl,rfl,_,rfl,?_⟩;rw[xAa];refine eI (λhk=>?_) (λhk=>?_)
  ·have hk':k<ns.length:=by have:=xAg hk; omega
   have ek:ns[k]?=some ns[k]:=by simp[hk']
   refine⟨_,rfl,_,rfl,a,_,_,_,rfl,rfl,hS,iK (v:=V.int ns[k]) (by rw[xAf,ek]; rfl),_,rfl,ns[k],k,rfl,?_⟩;have e:RW.cellAt ns k=RW.mixed ns[k] k:=by unfold RW.cellAt; rw[ek]
   rw[<- e];exact q
  ·have hk':¬ k<ns.length:=by intro z; exact hk (xAk (by omega))
   have e:RW.cellAt ns k=0:=by unfold RW.cellAt; rw[xGf (by omega)]
   rw[e] at q;exact q
theorem scN:aR ["thing","signs"] ["thing"] (aB oZ):=xfs
theorem sM {f:Addr}{fd:FuncData}(F:Fun K "is_name" "is_name" oZ f fd)(T:Txt K mg):aQ P w K mg base CX0 1 f fd ["thing"] (tG K):=by
 obtain⟨tl,mL⟩:=T.lett;obtain⟨tf,mF⟩:=T.figu;obtain⟨tm,mM⟩:=T.most;refine F.ok scN (λvs H Q E h=>?_) (λcdv A outer s H vs Q E hr h=>?_)
 ·obtain⟨x,rfl,_⟩:=h;rfl
 ·obtain⟨x,rfl,h⟩:=h
  refine⟨_,aJ (cK (nZ (jC (jW (cB uN (by rfl) T.isi Bo.isinstance (iR (pv 0) (iR (xG (v:=.ty "str") (by rfl) T.str Bo.str rfl) aF)))))
     (nZ (jC (tR (pv 0) (λ_=>rfl)))
     (lQ (aV pJ (cB xY (by rfl) T.len Bo.len (iR (pv 0) aF)) (hG (v:=.int 8) (by rfl) mM ⟨_,rfl⟩) (bC _))))).pt
    (aM (aU lX)) bS)
   (aJ (bJ (i:=1) scN.nd rfl (xEt rfl) (bV tY (hG (v:=.str jT) (by rfl) mL ⟨_,rfl⟩) (hG (v:=.str lF) (by rfl) mF ⟨_,rfl⟩)))
   (aM (aU (qP (fS vX (cG aRy (pv 0) aN (λ_ _=>rfl)) (hG (v:=.str jT) (by rfl) mL ⟨_,rfl⟩) (by with_unfolding_all rfl))
    (qO (cB (wG rfl) (by rfl) T.all Bo.all (iR (eN (N':=["sign","signs"]) (nown:=1) (js:=[1]) rfl
     xbs (cJ (aB oZ) ["thing","signs"] rfl rfl (by decide +kernel))
     ⟨λ_ _ _ _=>aS (i:=0) (show List.Nodup (["sign","signs"]:List Str) by decide +kernel) rfl (xAy rfl) (.inr rfl),λ_ _ _ _=>eV,λ_ _ _ _=>fS vX (pv 0) (pv 1) (by with_unfolding_all rfl)⟩
     (aRe (pv 0))) aF))))))),?_⟩
  rcases h with⟨z,rfl,hz,q⟩ | ⟨t,ty,hk,q⟩
  ·refine⟨_,rfl,.str z,.ty "str",.type "str",.type "str",true,rfl,lP,jY.str z,rfl,_,rfl,fX ?_⟩;refine⟨_,rfl,_,⟨hz,rfl⟩,?_⟩
   by_cases h0:z.length=0
   ·rw[h0];refine gX (gX ?_)
    have e:aW z=false:=by
     have:z.cps.toList.length=0:=by rw[xDd]; exact h0
     unfold aW pP;rw[xIi.mp this];rfl
    have q':=q H (aP.refl H);rw[e] at q';exact q'
   ·have hb:((z.length:Int) != 0)=true:=by simp[h0]
    rw[hb];refine fX ⟨_,rfl,z,rfl,hz,_,_,rfl,rfl,_,rfl,?_⟩;refine eI (λh8=>?_) (λh8=>?_)
    ·have h8':8<z.length:=by have:=xAg h8; omega
     have e:aW z=false:=by
      have hl:z.cps.toList.length=z.length:=by simp[Str.length]
      unfold aW pP;rw[xBb (by omega)];rfl
     have q':=q H (aP.refl H);rw[e] at q';exact q'
    ·have h8':z.length<=8:=by
      by_cases z8:z.length<=8
      ·exact z8
      ·exact xAz (xAk (show (8:Int)<(z.length:Int) by omega)) h8
     have hl:z.cps.toList.length=z.length:=by simp[Str.length]
     obtain⟨c,cs,ec⟩:∃ c cs,z.cps.toList=c::cs:=by
      cases e:z.cps.toList with
      | nil=>rw[e] at hl; exact xAz hl.symm h0
      | cons c cs=>exact⟨c,cs,rfl⟩
     have hat:atI z.cps.toList 0=some c:=by
      rw[ec];exact iK (j:=0) rfl
     have hn:aW z=(mI c&&z.cps.toList.all oP):=by
      unfold aW pP;rw[xAk (show 1<=z.cps.toList.length/\z.cps.toList.length<=8 by omega)];rw[ec];rfl
     refine⟨_,_,rfl,rfl,by decide +kernel,?_⟩;refine⟨_,rfl,z,0,c,rfl,rfl,hz,hat,_,_,rfl,rfl,_,rfl,?_⟩;rw[StrLaws.found_one,rR];refine eI (λhc=>?_) (λhc=>?_)
     ·refine⟨_,rfl,z,rfl,λD hD=>aOv (x:=z) (λi σ' H'=>∃ v,σ'=[v,some (.str (jT++lF))]/\H' D=some (.lst (((z.cps.toList.take i).map oP).map V.bl))/\aP H H') ?_ ?_ ?_⟩
      ·exact⟨none,rfl,aE,λb o e=>by rw[aL (aI e hD)]; exact e⟩
      ·rintro i d σ' H' hd ⟨v,rfl,hl',sm⟩;refine⟨_,rfl,_,rfl,_,_,rfl,rfl,_,hl',?_,some (aEe d),rfl,?_,?_⟩
       ·refine bO ?_;rw[xAa,xAa,xBe];omega
       ·rw[aE,StrLaws.found_one,aGu];have hd':z.cps.toList[i]?=some d:=by rw[xEf]; exact hd
        rw[xBf,hd']
        simp
       ·intro b o e;have e':=sm b o e;rw[aL (aI e hD)];exact e'
      ·rintro σ' H' ⟨v,rfl,hl',sm⟩;refine⟨D,_,rfl,SqL.of hl',?_⟩;have q':=q H' sm;rw[hn,hc,xFc] at q'
       have ea:((z.cps.toList.take z.cps.size).map oP).all id=z.cps.toList.all oP:=by
        rw[List.take_of_length_le (by simp),xHl];rfl
       rw[ea];exact q'
     ·have q':=q H (aP.refl H);rw[hn,xCb.mpr hc,xEr] at q';exact q'
  ·refine⟨_,rfl,x,.ty "str",.type "str",t,false,rfl,lP,ty,hk,_,rfl,gX (gX ?_)⟩;exact q
theorem scW:aR ["names","weights","weight","name"] ["names"] (aB tJ):=xfs
theorem aCa {f:Addr}{fd:FuncData}(F:Fun K "weights_of" "weights_of" tJ f fd)(T:Txt K mg):aQ P w K mg base CX0 1 f fd ["names"] (vN K):=by
 refine F.ok scW (λvs H Q E h=>?_) (λcdv A outer s H vs Q E hr h=>?_)
 ·obtain⟨a,ss,rfl,_⟩:=h;rfl
 ·obtain⟨a,ss,rfl,hS,h64,q⟩:=h;have hu:=jH hr
  refine⟨_,aJ (bJ (i:=1) scW.nd rfl (xAy rfl) lV)
   (aJ (bJ (i:=2) scW.nd rfl (xAy rfl) aN)
   (aJ (dZ PassesOwn.never rfl (cU (cB iU (by rfl) T.sorted Bo.sorted (pac (pv 0) aF))) (aS (i:=3) scW.nd rfl (xAy rfl))
    (aJ (jR hu (pv 1) (pv 3) (pv 2) rfl) (aM (bJ (i:=2) scW.nd rfl (xAy rfl) (bV oJ (pv 2) aN)))))
   (aM (aU (pv 1))))),?_⟩
  intro d hd;have s0:aP H (upd H d (.dK [])):=λb o e=>by rw[aL (aI e hd)]; exact e
  refine⟨_,rfl,a,ss,rfl,s0.seq hS,h64,λp ss' hp pm so=>⟨p,rfl,⟨_,SqL.of aE⟩,?_⟩⟩;have hpd:p≠d:=λz=>by rw[z,aE] at hp; cases hp
  have hpH:H p=none:=by rw[aL hpd] at hp; exact hp
  have hlen:ss'.length=ss.length:=pm.length_eq;refine dE (xs:=ss'.map V.str) (λi σ H'=>∃ wv kvs nv,σ=[some (.ref a),some (.ref d),some (.int wv),nv]/\H' d=some (.dK kvs)/\H' p=some (.lst (ss'.map V.str))/\aP H H'/\kvs.length<=i/\wts (ss'.drop i) wv kvs=wts ss' 1 []) ?_ ?_ ?_ ?_
  ·exact⟨1,[],none,rfl,by rw[aL (Ne.symm hpd),aE],aE,λb o e=>by rw[aL (aI e hpH),aL (aI e hd)]; exact e,xAl _,rfl⟩
  ·rintro i σ H' _ ⟨wv,kvs,nv,rfl,h1,h2,h3,h4,h5⟩;exact SqL.of h2
  ·rintro i x σ H' hx ⟨wv,kvs,nv,rfl,h1,h2,h3,h4,h5⟩;rw[xAf] at hx;cases hz:ss'[i]? with
   | none=>rw[hz] at hx; cases hx
   | some z=>
    rw[hz] at hx;cases hx;have hi:i<ss'.length:=(xAd.mp hz).1;refine⟨_,rfl,_,rfl,_,rfl,d,_,rfl,qB.k (k:=Sum.inr z) h1 (bO (by omega)),?_⟩;refine⟨_,rfl,_,_,rfl,rfl,.inr ⟨by decide,by decide⟩,wv*2,gN kvs (Sum.inr z) (.int wv),some (.str z),rfl,aE,by rw[aL hpd]; exact h2,λb o e=>?_,?_,?_⟩
    ·rw[aL (aI e hd)]; exact h3 b o e
    ·exact xAn (gG _ _ _) (by omega)
    ·rw[<- h5,xDh hi];rw[(xAd.mp hz).2];rfl
  ·rintro σ H' ⟨wv,kvs,nv,rfl,h1,h2,h3,h4,h5⟩;rw[xAa,xHo] at h5;refine⟨_,rfl,q d ss' H' h3 hd pm so ?_⟩;rw[h1];exact congrArg (λz=>some (HO.dK z)) h5
theorem scK:aR ["names","marks","name"] ["names"] (aB aBo):=xfs
theorem aKb {f:Addr}{fd:FuncData}(F:Fun K "marks_of" "marks_of" aBo f fd)(T:Txt K mg):aQ P w K mg base CX0 1 f fd ["names"] (sJ K):=by
 refine F.ok scK (λvs H Q E h=>?_) (λcdv A outer s H vs Q E hr h=>?_)
 ·obtain⟨a,ss,rfl,_⟩:=h;rfl
 ·obtain⟨a,ss,rfl,hS,hlen,q⟩:=h;have hu:=jH hr
  refine⟨_,aJ (bJ (i:=1) scK.nd rfl (xAy rfl) lV)
   (aJ (dZ PassesOwn.never rfl (cU (pv 0)) (aS (i:=2) scK.nd rfl (xAy rfl)) (aM (jR hu (pv 1) (pv 2) lX rfl)))
   (aM (aU (pv 1)))),?_⟩
  intro d hd;have s0:aP H (upd H d (.dK [])):=λb o e=>by rw[aL (aI e hd)]; exact e
  refine⟨_,rfl,a,rfl,⟨_,s0.seq hS⟩,?_⟩;refine dE (xs:=ss.map V.str) (λi σ H'=>∃ kvs nv,σ=[some (.ref a),some (.ref d),nv]/\H' d=some (.dK kvs)/\aP H H'/\kvs.length<=i/\mks (ss.drop i) kvs=mks ss []) ?_ ?_ ?_ ?_
  ·exact⟨[],none,rfl,aE,s0,xAl _,rfl⟩
  ·rintro i σ H' _ ⟨kvs,nv,rfl,h1,h3,h4,h5⟩;exact h3.seq hS
  ·rintro i x σ H' hx ⟨kvs,nv,rfl,h1,h3,h4,h5⟩;rw[xAf] at hx;cases hz:ss[i]? with
   | none=>rw[hz] at hx; cases hx
   | some z=>
    rw[hz] at hx;cases hx;have hi:i<ss.length:=(xAd.mp hz).1;refine⟨_,rfl,_,rfl,d,_,rfl,qB.k (k:=Sum.inr z) h1 (bO (by omega)),gN kvs (Sum.inr z) (.bl true),some (.str z),rfl,aE,λb o e=>?_,?_,?_⟩
    ·rw[aL (aI e hd)]; exact h3 b o e
    ·exact xAn (gG _ _ _) (by omega)
    ·rw[<- h5,xDh hi];rw[(xAd.mp hz).2];rfl
  ·rintro σ H' ⟨kvs,nv,rfl,h1,h3,h4,h5⟩;rw[xAa,xHo] at h5;refine⟨_,rfl,q d H' h3 hd ?_⟩;rw[h1];exact congrArg (λz=>some (HO.dK z)) h5
structure Exc (K:xAb)(mg:xSO)(cl:Why->Addr):Prop where
 nn:mg "NoName"=some (.ref (cl .noName))
 nd:mg "NoDeed"=some (.ref (cl .noDeed))
 tt:mg "TwiceTold"=some (.ref (cl .twice))
 tm:mg "TooMany"=some (.ref (cl .tooMany))
 x:∀ k,nA K (cl k)
theorem scR:aR ["names","ahead","name"] ["names"] (aB wX):=xfs
theorem aGe {f fN:Addr}{fd fdN:FuncData}{cl:Why->Addr}(F:Fun K "refuse_names" "refuse_names" wX f fd)(T:Txt K mg)(Ex:Exc K mg cl)
  (FN:Fun K "is_name" "is_name" oZ fN fdN)(bN:aX K fdN ["thing"] [])(mN:mg "is_name" = some (.ref fN)) :
  aQ P w K mg base (CXE P w) 2 f fd ["names"] (yN K cl):=by
 have GN:aQ P w K mg base CX0 1 fN fdN ["thing"] (tG K):=sM FN T;obtain⟨tm,mD⟩:=T.deeds;refine okE F scR (λvs H Q E h=>?_) (λcdv A outer s H vs Q E hr h D=>?_)
 ·obtain⟨a,ss,rfl,_⟩:=h;rfl
 ·obtain⟨a,ss,rfl,hS,hsh,q⟩:=h;have hu:=jH hr
  refine⟨_,aJ (cK (aV pJ (cB cL (by rfl) T.len Bo.len (pac (pv 0) aF)) (hG (v:=.int 12) (by rfl) mD ⟨_,rfl⟩) (bC _))
    (aM (eZ D rfl (by rfl) Ex.tm (Ex.x .tooMany) (pac aO aF))) bS)
   (aJ (bJ (i:=1) scR.nd rfl (xAy rfl) lV)
   (aM (dZ PassesOwn.leaving rfl (cU (pv 0)) (aS (i:=2) scR.nd rfl (xAy rfl))
    (aJ (cK (jC (jW (bX GN hr rfl mN FN.kp bN .nil bZ (pac (pv 2) aF)))) (aM (eZ D rfl (by rfl) Ex.nn (Ex.x .noName) (pac aO aF))) bS)
    (aJ (cK (qN (tW hu (pv 2) (pv 1))) (aM (eZ D rfl (by rfl) Ex.tt (Ex.x .twice) (pac (zH aO (aRg (pv 2)) aO) aF))) bS)
    (aM (jR hu (pv 1) (pv 2) lX rfl))))))),?_⟩
  refine⟨_,rfl,a,_,rfl,.inl hS,_,_,rfl,rfl,_,rfl,?_⟩;rw[xAa]
  have fin:∀ (k:Why) H',aP H H'->jP ss=some k->E (.ref (cl k)) none H':=λk H' sm e=>by
   have:=q H' sm
   rw[e] at this;exact this
  refine eI (λh12=>?_) (λh12=>?_)
  ·have h12':12<ss.length:=by have:=xAg h12; omega
   exact⟨by show 1<=sizeLine; decide,fin .tooMany H (aP.refl H) (xAu h12')⟩
  ·have h12':¬ 12<ss.length:=λz=>h12 (xAk (by omega));have er:jP ss=uX [] ss:=xAt h12';intro d hd;have s0:aP H (upd H d (.dK [])):=λb o e=>by rw[aL (aI e hd)]; exact e
   refine⟨_,rfl,a,rfl,⟨_,s0.seq hS⟩,?_⟩;refine dE (xs:=ss.map V.str) (λi σ H'=>∃ kvs nv,σ=[some (.ref a),some (.ref d),nv]/\H' d=some (.dK kvs)/\aP H H'/\kvs.length<=i/\(∀ z,(dN kvs (Sum.inr z)).isSome=decide (z∈ss.take i))/\uX (ss.take i) (ss.drop i)=uX [] ss) ?_ ?_ ?_ ?_
   ·exact⟨[],none,rfl,aE,s0,xAl _,λz=>by simp[dN],rfl⟩
   ·rintro i σ H' _ ⟨kvs,nv,rfl,h1,h3,h4,h5,h6⟩;exact h3.seq hS
   ·rintro i x σ H' hx ⟨kvs,nv,rfl,h1,h3,h4,h5,h6⟩;rw[xAf] at hx;cases hz:ss[i]? with
    | none=>rw[hz] at hx; cases hx
    | some z=>
     rw[hz] at hx;cases hx;obtain⟨hi,hzi⟩:=xAd.mp hz;have hzl:z.length<=1000:=hsh z (xBa hz);have ed:ss.drop i=z::ss.drop (i+1):=by rw[xDh hi,hzi]
     have et:ss.take (i+1)=ss.take i++[z]:=by rw[xBf,hz]; rfl
     have sl:sizeLine=16777216:=sizeLine_eq;rw[ed] at h6;refine⟨_,rfl,.str z,rfl,.inl ⟨z,rfl,by omega,λH2 sm2=>⟨_,rfl,?_⟩⟩⟩;have s2:aP H H2:=h3.trans sm2
     by_cases hn:aW z=true
     ·rw[hn];refine fX ⟨_,rfl,_,rfl,d,_,rfl,gK.k (k:=Sum.inr z) (sm2 d _ h1),_,rfl,?_⟩;rw[h5 z]
      by_cases hm:z∈ss.take i
      ·rw[xAk hm];refine gX ⟨_,rfl,?_,_,rfl,z,rfl,by omega,_,rfl,?_,_,rfl,?_,?_,by show 1<=sizeLine; decide,fin .twice H2 s2 ?_⟩
       ·rw[iS]; show 0+9<=sizeLine; decide
       ·rw[iS,iS]; show 0+9+z.length<=sizeLine; omega
       ·rw[iS,iS,iS]; show 0+9+z.length+14<=sizeLine; omega
       ·rw[iS,iS,iS]; show 0+9+z.length+14<=sizeLine; omega
       ·rw[er,<- h6];show (if aW z=true then (if z∈ss.take i then some Why.twice else uX (ss.take i++[z]) (ss.drop (i+1))) else some .noName)=_
        rw[xAu hn,xAu hm]
      ·rw[xBb hm];refine fX ⟨_,rfl,_,rfl,d,_,rfl,qB.k (k:=Sum.inr z) (sm2 d _ h1) (bO (by omega)),gN kvs (Sum.inr z) (.bl true),some (.str z),rfl,aE,λb o e=>?_,?_,λy=>?_,?_⟩
       ·rw[aL (aI e hd)]; exact s2 b o e
       ·exact xAn (gG _ _ _) (by omega)
       ·rw[lK,et]
        by_cases hy:y=z
        ·subst hy;rw[xAu rfl]
         simp
        ·rw[xAt (λe=>hy (Sum.inr.inj e)),h5 y];simp[hy]
       ·rw[et,<- h6];show _=if aW z=true then (if z∈ss.take i then some .twice else uX (ss.take i++[z]) (ss.drop (i+1))) else some .noName
        rw[xAu hn,xAt hm]
     ·rw[xCb.mpr hn];refine gX ⟨by show 1<=sizeLine; decide,fin .noName H2 s2 ?_⟩;rw[er,<- h6];exact xAt hn
   ·rintro σ H' ⟨kvs,nv,rfl,h1,h3,h4,h5,h6⟩;rw[xAa,xHo,xAx] at h6
    have:=q H' h3
    rw[er,<- h6] at this;exact this
structure yB (K:xAb)(C:Addr):Prop where
 cl:Cls K C
 nw:dD K C "weights"
 nf:dD K C "free_marks"
theorem scH:aR ["self","thing"] ["self","thing"] (aB aNf):=xfs
theorem aXo (K:xAb):kitOne K (.type "NoneType") (.type "str")=some false:=by
 unfold kitOne kitCls;rw[xAt (by decide)];dsimp only;rw[xAu (by decide +kernel)];show (PySem.fastBuiltinMro "NoneType").map _=_
 decide +kernel
theorem aXp (K:xAb):kitOne K (.type "int") (.type "str")=some false:=by
 unfold kitOne kitCls;rw[xAt (by decide)];dsimp only;rw[xAu (by decide +kernel)];show (PySem.fastBuiltinMro "int").map _=_
 decide +kernel
theorem aRo {f fN C:Addr}{fd fdN:FuncData}(F:Fun K "has" "Deeds.has" aNf f fd)(T:Txt K mg)(DC:yB K C)
  (FN:Fun K "is_name" "is_name" oZ fN fdN)(bN:aX K fdN ["thing"] [])(mN:mg "is_name" = some (.ref fN)) :
  aQ P w K mg base CX0 2 f fd ["self","thing"] (aPh K C):=by
 have GN:aQ P w K mg base CX0 1 fN fdN ["thing"] (tG K):=sM FN T;refine F.ok scH (λvs H Q E h=>?_) (λcdv A outer s H vs Q E hr h=>?_)
 ·obtain⟨p,x,kvs,rfl,_⟩:=h;rfl
 ·obtain⟨p,x,kvs,rfl,hz,⟨dx,fs,dw,o,hp,hm,hw,hk⟩,q⟩:=h;have hu:=jH hr;refine⟨_,aM (aU (qP (bX GN hr rfl mN FN.kp bN .nil bZ (pac (pv 1) aF)) (qO (aJk (tW hu (pv 1) (cE (pv 0) rfl)))))),?_⟩;rcases hz with⟨z,rfl,hz⟩ | rfl | rfl
  ·refine⟨_,rfl,.str z,rfl,.inl ⟨z,rfl,by have sl:sizeLine=16777216:=sizeLine_eq; omega,λH2 s2=>⟨_,rfl,?_⟩⟩⟩;have q2:=q H2 s2;refine eI (λhn=>?_) (λhn=>?_)
   ·rw[cY,hn,xFc] at q2;exact⟨_,rfl,_,rfl,p,C,dx,fs,_,rfl,s2 p _ hp,DC.cl,DC.nw,hw,dw,_,rfl,.inl ⟨kvs,Sum.inr z,.inr ⟨o,s2 dw _ hk⟩,rfl,rfl⟩,q2⟩
   ·rw[cY,xCb.mpr hn,xEr] at q2;exact q2
  ·exact⟨_,rfl,.non,rfl,.inr ⟨_,.non,aXo K,_,rfl,fX (q H (aP.refl H))⟩⟩
  ·exact⟨_,rfl,.int 5,rfl,.inr ⟨_,.int 5,aXp K,_,rfl,fX (q H (aP.refl H))⟩⟩
theorem scQ:aR ["self","row","deed"] ["self","row"] (aB tK):=xfs
theorem aCc {f fN fH C:Addr}{fd fdN fdH:FuncData}{cl:Why->Addr}(F:Fun K "require" "Deeds.require" tK f fd)(T:Txt K mg)(Ex:Exc K mg cl)(DC:yB K C)
  (FN:Fun K "is_name" "is_name" oZ fN fdN)(bN:aX K fdN ["thing"] [])(mN:mg "is_name" = some (.ref fN))
  (FH:Fun K "has" "Deeds.has" aNf fH fdH)(bH:aX K fdH ["self","thing"] [])(mH:eE K C "has" fH) :
  aQ P w K mg base (CXE P w) 3 f fd ["self","row"] (iC K C cl):=by
 have GH:aQ P w K mg base CX0 2 fH fdH ["self","thing"] (aPh K C):=aRo FH T DC FN bN mN;refine okE F scQ (λvs H Q E h=>?_) (λcdv A outer s H vs Q E hr h D=>?_)
 ·obtain⟨p,b,fs,kvs,rfl,_⟩:=h;rfl
 ·obtain⟨p,b,fs,kvs,rfl,hS,hsh,⟨dx,fl,dw,o,hp,hm,hw,hk⟩,q⟩:=h
  refine⟨_,aM (dZ PassesOwn.leaving rfl (cU (pv 1)) (aS (i:=2) scQ.nd rfl (xAy rfl))
    (aM (cK (jC (jW (cS (pv 0) DC.cl mH GH hr bH .nil bZ (pac (pv 2) aF)))) (aM (eZ D rfl (by rfl) Ex.nd (Ex.x .noDeed) (pac aO aF))) bS))),?_⟩
  refine⟨_,rfl,b,rfl,⟨_,hS⟩,?_⟩;refine dE (xs:=fs) (λi σ H'=>∃ nv,σ=[some (.ref p),some (.ref b),nv]/\aP H H'/\(fs.take i).all (cY kvs)=true) ?_ ?_ ?_ ?_
  ·exact⟨none,rfl,aP.refl H,rfl⟩
  ·rintro i σ H' _ ⟨nv,rfl,h3,h4⟩;exact h3.seq hS
  ·rintro i x σ H' hz ⟨nv,rfl,h3,h4⟩;refine⟨_,rfl,p,dx,fl,rfl,h3 p _ hp,hm "has" (by decide),_,rfl,p,x,kvs,rfl,hsh x (xBa hz),⟨dx,fl,dw,o,h3 p _ hp,hm,hw,h3 dw _ hk⟩,λH2 s2=>⟨_,rfl,?_⟩⟩;cases hb:cY kvs x with
   | true=>
    refine fX ⟨some x,rfl,h3.trans s2,?_⟩;rw[xBf,hz,xHu,h4];simp[hb]
   | false=>
    refine gX ⟨by show 1<=sizeLine; decide,?_⟩
    have:=q H2 (h3.trans s2)
    rw[xAt ?_] at this
    ·exact this
    ·intro z'
     have:=xBj.mp z' x (xBa hz)
     rw[hb] at this;cases this
  ·rintro σ H' ⟨nv,rfl,h3,h4⟩;rw[xAx] at h4
   have:=q H' h3
   rw[xAu h4] at this;exact this
theorem aQq {K:xAb}{H H':Hp}{a x C dx:Addr}{fs:List (Str×V)}{xs:List V}(e:SameBut x H H')(hx:H x=some (.ins C dx fs))(h:SqL K H a xs):SqL K H' a xs:=by
 rcases h with (h | ⟨o,h⟩) | h
 ·exact .inl (.inl (e _ _ (λz=>by rw[z,hx] at h; cases h) h))
 ·exact .inl (.inr ⟨o,e _ _ (λz=>by rw[z,hx] at h; cases h) h⟩)
 ·exact .inr h
theorem noW (v:V):∀ m∈aLc,List.lookup m [(("weights" : Str),v)]=none:=by
 have h:∀ m∈aLc,(m==("weights" : Str))=false:=by decide +kernel
 intro m hm;simp only[List.lookup,h m hm]
theorem aXl (v u:V):∀ m∈aLc,List.lookup m [(("weights" : Str),v),(("free_marks" : Str),u)]=none:=by
 have h:∀ m∈aLc,(m==("weights" : Str))=false/\(m==("free_marks" : Str))=false:=by decide +kernel
 intro m hm;simp only[List.lookup,(h m hm).1,(h m hm).2]
theorem aMe (kvs:List (Key×V))(fs:List Str):(fs.map V.str).all (cY kvs)=fs.all (λz=>aW z&&(dN kvs (Sum.inr z)).isSome):=by
 rw[xHl];rfl
theorem nF {fs:List Str}(h:hZ fs):∀ x∈fs.map V.str,aAs x:=λx hx=>by
 obtain⟨z,hz,rfl⟩:=xAp.mp hx;exact .inl ⟨z,rfl,h z hz⟩
theorem sX:∀ (ss:List Str) (wv:Int) (kvs:List (Key×V)) (z:Str),(dN (wts ss wv kvs) (Sum.inr z)).isSome=(decide (z∈ss)||(dN kvs (Sum.inr z)).isSome)
 | [],_,kvs,z=>by simp[wts]
 | s::r,wv,kvs,z=>by
  rw[wts,sX r,lK]
  by_cases h:z=s
  ·subst h
   simp
  ·rw[xAt λe=>h (Sum.inr.inj e)];simp[h]
theorem scI:aR ["self","names","free","free_names"] ["self","names","free"] (aB jB):=xfs
theorem aNx {f fR fW fK fQ C:Addr}{fd fdR fdW fdK fdQ:FuncData}{cl:Why->Addr}(F:aMo K "__init__" "Deeds.__init__" jB f fd)(T:Txt K mg)(DC:yB K C)
  (GR:aQ P w K mg base (CXE P w) 2 fR fdR ["names"] (yN K cl))(kR:keepIn K (.ref fR)=true)(bR:aX K fdR ["names"] [])(mR:mg "refuse_names" = some (.ref fR))
  (GW:aQ P w K mg base CX0 1 fW fdW ["names"] (vN K))(kW:keepIn K (.ref fW)=true)(bW:aX K fdW ["names"] [])(mW:mg "weights_of" = some (.ref fW))
  (GK:aQ P w K mg base CX0 1 fK fdK ["names"] (sJ K))(kK:keepIn K (.ref fK)=true)(bK:aX K fdK ["names"] [])(mK:mg "marks_of" = some (.ref fK))
  (GQ:aQ P w K mg base (CXE P w) 3 fQ fdQ ["self","row"] (iC K C cl))(bQ:aX K fdQ ["self","row"] [])(mQ:eE K C "require" fQ) :
  aQ P w K mg base (CXE P w) 4 f fd ["self","names","free"] (aBh K C cl):=by
 refine aTv F scI (λvs H Q E h=>?_) (λcdv A outer s H vs Q E hr h D=>?_)
 ·obtain⟨x,a,y,dx,ss,fs,rfl,_⟩:=h;rfl
 ·obtain⟨x,a,y,dx,ss,fs,rfl,hx,hA,hB,hsh,hfh,hfl,q⟩:=h;have hr1:cM 1 _:=hr.mono (by decide);have hr2:cM 2 _:=hr.mono (by decide)
  refine⟨_,aJ (dA (bX GR hr2 rfl mR kR bR .nil (D.passes λ_ _ _ z=>z) (pac (pv 1) aF)))
   (aJ (gL (pv 0) (aFt (bX GW hr1 rfl mW kW bW .nil bZ (pac (pv 1) aF))) rfl)
   (jQ (λσ H'=>∃ b d o ss',σ=[some (.ref x),some (.ref a),some y,some (.ref b)]/\H' x=some (.ins C dx [("weights",.ref d)])/\H' d=some (.frz o (.dK (wts ss' 1 [])))/\SameBut x H H'/\SqL K H' b (fs.map V.str)/\ss'.Perm ss/\xBp ss'=true)
    (bJ (i:=3) scI.nd rfl (xAy rfl) (kC (aV aBz (pv 2) eJ (bC _)) (cA aF) (pv 2)))
   (aJ (dA (cS (pv 0) DC.cl mQ GQ hr bQ .nil (D.passes λ_ _ _ z=>z) (pac (pv 3) aF)))
   (aM (gL (pv 0) (bX GK hr1 rfl mK kK bK .nil bZ (pac (pv 3) aF)) rfl))))),?_⟩
  refine⟨_,rfl,a,ss,rfl,hA,hsh,λH1 s1=>?_⟩;have sb:∀ {H'},aP H H'->SameBut x H H':=λsm b o _ e=>sm b o e;cases hR:jP ss with
  | some k=>
   have:=q H1 (sb s1)
   unfold mO at this;rw[hR] at this;exact this
  | none=>
   have h12:ss.length<=12:=by
    unfold jP at hR
    by_cases z:12<ss.length
    ·rw[xAu z] at hR; cases hR
    ·omega
   refine⟨_,rfl,a,ss,rfl,s1.seq hA,by omega,λd ss' H2 s2 hd pm so hd2=>⟨d,_,rfl,hd2,λo=>?_⟩⟩;have hx2:=s2 x _ (s1 x _ hx);have ndx:d≠x:=λz=>by rw[z,hx2] at hd2; cases hd2
   have hx2':(upd H2 d (.frz o (.dK (wts ss' 1 [])))) x=some (.ins C dx []):=by rw[aL (Ne.symm ndx)]; exact hx2
   refine⟨_,rfl,x,C,dx,[],rfl,hx2',DC.cl,DC.nw,by decide,?_⟩;generalize hH3:upd (upd H2 d (.frz o (.dK (wts ss' 1 [])))) x (.ins C dx (gO "weights" (.ref d) []))=H3;have hx3:H3 x=some (.ins C dx [("weights",.ref d)]):=by rw[<- hH3,aE]; rfl
   have hd3:H3 d=some (.frz o (.dK (wts ss' 1 []))):=by rw[<- hH3,aL ndx,aE]
   have hHd:H d=none:=by
    cases e:H d with
    | none=>rfl
    | some u=>rw[s1 d u e] at hd; cases hd
   have s3:SameBut x H H3:=λb o n e=>by rw[<- hH3,aL n,aL (aI e hHd)]; exact s2 b o (s1 b o e)
   have hB3:(y=.non/\fs=[])\/∃ b,y=.ref b/\SqL K H3 b (fs.map V.str):=hB.imp id λ⟨b,e,h⟩=>⟨b,e,aQq s3 hx h⟩;refine⟨?_,?_⟩
   ·rcases hB3 with⟨rfl,rfl⟩ | ⟨b,rfl,hB3⟩
    ·refine⟨_,rfl,rfl,_,rfl,eI (λ_=>⟨by show 0<=sizeLine; decide,λl hl=>⟨l,d,o,ss',rfl,?_,?_,?_,SqL.of aE,pm,so⟩⟩) λz=>xAz (xAk rfl) z⟩
     ·rw[aL (aI hx3 hl)]; exact hx3
     ·rw[aL (aI hd3 hl)]; exact hd3
     ·exact λc u n e=>by rw[aL (aI (s3 c u n e) hl)]; exact s3 c u n e
    ·exact⟨_,rfl,rfl,_,rfl,eI (λz=>xAz (xAg z) (by intro z; cases z)) λ_=>⟨_,rfl,b,d,o,ss',rfl,hx3,hd3,s3,hB3,pm,so⟩⟩
   clear hB3 hd3 hx3 s3 hH3 H3 hx2' hx2 ndx hd2;rintro σ H3 ⟨b,d,o,ss',rfl,hx3,hd3,s3,hB3,pm,so⟩
   have e4:∀ z,(dN (wts ss' 1 []) (Sum.inr z)).isSome=decide (z∈ss):=λz=>by
    rw[sX];simp[dN,pm.mem_iff]
   refine⟨_,rfl,x,dx,_,rfl,hx3,by rfl,_,rfl,x,b,fs.map V.str,_,rfl,hB3,nF hfh,⟨dx,_,d,o,hx3,noW _,by rfl,hd3⟩,λH4 s4=>?_⟩;have s4':SameBut x H H4:=λb o n e=>s4 b o (s3 b o n e);rw[aMe];simp only[e4];have q4:=q;unfold mO at q4;rw[hR] at q4;have ndx:d≠x:=λz=>by rw[z,hx3] at hd3; cases hd3
   by_cases hall:fs.all (λf=>aW f&&decide (f∈ss))=true
   ·simp only[if_pos hall] at q4 ⊢;refine⟨_,rfl,b,fs,rfl,s4.seq hB3,hfl,λdf H5 s5 hdf hdf5=>?_⟩;have hx5:=s5 x _ (s4 x _ hx3);have ndf:df≠x:=λz=>by rw[z,hx5] at hdf5; cases hdf5
    refine⟨_,rfl,x,C,dx,_,rfl,hx5,DC.cl,DC.nf,by show 1<1000; decide,?_⟩;refine q4 _ (λb o n e=>by rw[aL n]; exact s5 b o (s4' b o n e)) d df o ss' (by rw[aE]; rfl) (by rw[aL ndx]; exact s5 d _ (s4 d _ hd3)) (by rw[aL ndf]; exact hdf5) pm so
   ·simp only[if_neg hall] at q4 ⊢;exact q4 H4 s4'
abbrev kS:List Str:=["go","a","b1","stop","r0","r1","open","x","yy","z9","longname","c"]
def iB (c:Int):Int:=([1,5,7,11]:List Int).getD (c/12%4).toNat 1
def qU (c:Int)(k:Nat):Str:=kS.getD ((c+iB c*k)%12).toNat ""
def eB (c:Int)(n:Nat):List Str:=(List.range n).map (qU c)
def gF (c:Int):Nat:=if c/8%16=1 then (c/128%2).toNat else ([2,3,3,4,4,5,6,12]:List Nat).getD (c%8).toNat 0
def rG (c:Int)(ss:List Str):List Str:=(List.range ss.length).filterMap λ(k:Nat)=>if RW.mixed c (k:Nat)%4=1 then ss[k]? else none
theorem gI {α β:Type}(f:α->β)(xs:List α)(d:α){i:Int}(h0:0<=i)(h1:i<xs.length):atI (xs.map f) i=some (f (xs.getD i.toNat d)):=by
 have hl:i.toNat<xs.length:=by omega
 have e:i=(i.toNat:Int):=by omega
 have h:=iK (xs:=xs.map f) (j:=i.toNat) (v:=f (xs.getD i.toNat d)) (by rw[xAf,xBl,xAe hl]; rfl);rw[<- e] at h;exact h
theorem cX (c:Int){m:Int}(h:0<m):0<=c%m/\c%m<m:=⟨Int.emod_nonneg _ (by omega),Int.emod_lt_of_pos _ h⟩
theorem aIh:∀ n,n<4->([1,5,7,11]:List Int).getD n 1=1\/([1,5,7,11]:List Int).getD n 1=5\/([1,5,7,11]:List Int).getD n 1=7\/([1,5,7,11]:List Int).getD n 1=11:=by decide +kernel
theorem kQ (c:Int):iB c=1\/iB c=5\/iB c=7\/iB c=11:=by
 have h:=cX (c/12) (m:=4) (by decide);exact aIh _ (by omega)
theorem aLf:∀ n,n<8->([2,3,3,4,4,5,6,12]:List Nat).getD n 0<=12/\(([2,3,3,4,4,5,6,12]:List Int).getD n 0)=((([2,3,3,4,4,5,6,12]:List Nat).getD n 0:Nat):Int):=by decide +kernel
theorem vZ (c:Int):([2,3,3,4,4,5,6,12]:List Nat).getD (c%8).toNat 0<=12/\(([2,3,3,4,4,5,6,12]:List Int).getD (c%8).toNat 0)=((([2,3,3,4,4,5,6,12]:List Nat).getD (c%8).toNat 0:Nat):Int):=by
 have h:=cX c (m:=8) (by decide);exact aLf _ (by omega)
theorem nM (c:Int):gF c<=12:=by
 unfold gF;split
 ·have h:=cX (c/128) (m:=2) (by decide);omega
 ·exact (vZ c).1
def mJ (c:Int)(ss:List Str)(i:Nat):List Str:=(List.range i).filterMap λ(k:Nat)=>if RW.mixed c (k:Nat)%4=1 then ss[k]? else none
inductive vP (K:xAb)(vs:List V)(H:Hp)(Q:VK)(x3_:XK):Prop
 | mk (c:Int)(n:Nat)(h0_:vs=[.int c,.int n])(h1_:n<=1000)(h2_:∀ (l:Addr) H',aP H H'->H l=none->H' l=some (.lst ((eB c n).map V.str))->Q (.ref l) H')
inductive vR (K:xAb)(vs:List V)(H:Hp)(Q:VK)(x3_:XK):Prop
 | mk (c:Int)(h0_:vs=[.int c])(h1_:∀ (t l m:Addr) H',aP H H'->H' t=some (.tup [.ref l,.ref m])->H' l=some (.lst ((eB (c/256) (gF c)).map V.str))->H' m=some (.lst ((rG c (eB (c/256) (gF c))).map V.str))->Q (.ref t) H')
abbrev NB:List Str:=["_law_cell","_law_many","_law_some","_law_step"]
theorem scB:aR NB ["_law_cell","_law_many"] (aB lO):=xfs
theorem aCd {f:Addr}{fd:FuncData}(F:Fun K "_law_names_by" "_law_names_by" lO f fd)(T:Txt K mg):aQ P w K mg base CX0 1 f fd ["_law_cell","_law_many"] (vP K):=by
 refine F.ok scB (λvs H Q E h=>?_) (λcdv A outer s H vs Q E hr h=>?_)
 ·obtain⟨c,n,rfl,_⟩:=h;rfl
 ·obtain⟨c,n,rfl,hn,q⟩:=h
  refine⟨_,aJ (bJ (i:=2) scB.nd rfl (xEt rfl) (cA (pac aO (pac aO (pac aO (pac aO (pac aO (pac aO (pac aO (pac aO (pac aO (pac aO (pac aO (pac aO aF))))))))))))))
   (aJ (bJ (i:=3) scB.nd rfl (xEt rfl) (cG dG (cA (pac aN (pac aN (pac aN (pac aN aF))))) (bV dQ (bV gJ (pv 0) aN) aN) (λ_ _=>rfl)))
   (aM (aU (eN (N':=["_law_k","_law_some","_law_cell","_law_step"]) (nown:=1) (js:=[2,0,3]) rfl
     xbs (cJ (aB lO) NB rfl rfl (by decide +kernel))
     ⟨λ_ _ _ _=>aS (i:=0) (show List.Nodup (["_law_k","_law_some","_law_cell","_law_step"]:List Str) by decide +kernel) rfl (xAy rfl) (.inr rfl),λ_ _ _ _=>eV,
      λ_ _ _ _=>cG (show IxR _ (sC K) from dG) (pv 1) (bV dQ (bV eK (pv 2) (bV oJ (pv 3) (pv 0))) aN) (λ_ _=>rfl)⟩
     (gW rfl T.range (pac (pv 1) aF)))))),?_⟩
  have sl:sizeLine=16777216:=sizeLine_eq;have g4:=cX (c/12) (m:=4) (by decide);refine⟨by show 12<=sizeLine; decide,λp hp=>⟨by show 4<=sizeLine; decide,λp2 hp2=>⟨_,rfl,_,_,rfl,rfl,⟨by decide,by decide⟩,_,_,rfl,rfl,(by show (0:Int)<4; decide),p2,_,_,V.int (iB c),rfl,rfl,SqL.of aE,gI V.int [1,5,7,11] 1 g4.1 g4.2,?_⟩⟩⟩;have n12:p≠p2:=aI aE hp2;generalize hH2:upd (upd H p _) p2 _=H2;have e2:H2 p=some (.lst (kS.map V.str)):=by rw[<- hH2,aL n12,aE]; rfl
  have s2:aP H H2:=λb o e=>by
   have m1:b≠p:=aI e hp;have m2:b≠p2:=aI (show (upd H p _) b=some o by rw[aL m1]; exact e) hp2;rw[<- hH2,aL m2,aL m1];exact e
  refine⟨_,rfl,n,rfl,by omega,by omega,λD hD=>iH (n:=n) (λi σ' H'=>∃ v,σ'=[v,some (.ref p),some (.int c),some (.int (iB c))]/\H' D=some (.lst ((eB c i).map V.str))/\aP H2 H') ?_ ?_ ?_⟩
  ·exact⟨none,rfl,aE,λb o e=>by rw[aL (aI e hD)]; exact e⟩
  ·rintro i σ' H' hi ⟨v,rfl,hl',sm⟩;have g12:=cX (c+iB c*(0+(i:Int))) (m:=12) (by decide);refine⟨_,rfl,_,rfl,_,rfl,_,rfl,_,_,rfl,rfl,.inl ?_,_,_,rfl,rfl,_,_,rfl,rfl,(by show (0:Int)<12; decide),p,_,_,V.str (qU c i),rfl,rfl,SqL.of (sm p _ e2),?_,_,hl',?_,_,rfl,?_,?_⟩
   ·rcases kQ c with h | h | h | h <;> (rw[h]; exact⟨by decide,by decide⟩)
   ·have h:=gI V.str kS "" g12.1 g12.2;rw[h,xEw];rfl
   ·refine bO ?_;rw[xAa];unfold eB;rw[xAa,xBu];omega
   ·rw[aE];unfold eB;rw[xCu,xAm,xAm];rfl
   ·intro b o e;rw[aL (aI e hD)];exact sm b o e
  ·rintro σ' H' ⟨v,rfl,hl',sm⟩;refine q D H' (s2.trans sm) ?_ hl';exact s2.free hD
abbrev ND:List Str:=["_law_cell","_law_many","_law_names"]
theorem scD:aR ND ["_law_cell"] (aB pB):=xfs
theorem aCh {f fM fB:Addr}{fd fdM fdB:FuncData}(F:Fun K "_law_deeds_by" "_law_deeds_by" pB f fd)(T:Txt K mg)
  (FM:Fun K "_law_mixed" "_law_mixed" tL fM fdM)(bM:aX K fdM ["_law_cell","_law_k"] [])(mM:mg "_law_mixed" = some (.ref fM))
  (FB:Fun K "_law_names_by" "_law_names_by" lO fB fdB)(bB:aX K fdB ["_law_cell","_law_many"] [])(mB:mg "_law_names_by" = some (.ref fB)):aQ P w K mg base CX0 2 f fd ["_law_cell"] (vR K):=by
 have GM:aQ P w K mg base CX0 1 fM fdM ["_law_cell","_law_k"] oW:=pL FM;have GB:aQ P w K mg base CX0 1 fB fdB ["_law_cell","_law_many"] (vP K):=aCd FB T;refine F.ok scD (λvs H Q E h=>?_) (λcdv A outer s H vs Q E hr h=>?_)
 ·obtain⟨c,rfl,_⟩:=h;rfl
 ·obtain⟨c,rfl,q⟩:=h
  refine⟨_,aJ (bJ (i:=1) scD.nd rfl (xAy rfl) (cG dG (cA (pac aN (pac aN (pac aN (pac aN (pac aN (pac aN (pac aN (pac aN aF))))))))) (bV dQ (pv 0) aN) (λ_ _=>rfl)))
   (jQ (λσ H'=>σ=[some (.int c),some (.int (gF c)),none]/\aP H H')
    (cK (aV eC (bV dQ (bV gJ (pv 0) aN) aN) aN (bC _))
     (aM (bJ (i:=1) scD.nd rfl (xAy rfl) (bV dQ (bV gJ (pv 0) aN) aN))) bS)
   (aJ (bJ (i:=2) scD.nd rfl (xAy rfl) (bX GB hr rfl mB FB.kp bB .nil bZ (pac (bV gJ (pv 0) aN) (pac (pv 1) aF))))
   (aM (aU (dL (pac (pv 2) (pac (eN (N':=["_law_k","_law_name","_law_cell"]) (nown:=2) (js:=[0]) rfl
     xbs (cJ (aB pB) ND rfl rfl (by decide +kernel))
     ⟨λ_ _ _ _=>show PG _ _ (aAg K 2 (iN (hU 0) (iN (hU 1) aAh))) from eO rfl (aY (aS (i:=0) (show List.Nodup (["_law_k","_law_name","_law_cell"]:List Str) by decide +kernel) rfl (xAy rfl) (.inr rfl)) (aY (aS (i:=1) (show List.Nodup (["_law_k","_law_name","_law_cell"]:List Str) by decide +kernel) rfl (xAy rfl) (.inr rfl)) dO)),
      λ_ _ _ _=>iP (aV eC (bV dQ (bX GM hr rfl mM FM.kp bM .nil bZ (pac (pv 2) (pac (pv 0) aF))) aN) aN (bC _)),
      λ_ _ _ _=>pv 1⟩
     (kY rfl T.enum (pac (pv 2) aF))) aF))))))),?_⟩
  have sl:sizeLine=16777216:=sizeLine_eq;have g8:=cX c (m:=8) (by decide);refine⟨by show 8<=sizeLine; decide,λp hp=>⟨_,rfl,_,_,rfl,rfl,(by show (0:Int)<8; decide),p,_,_,V.int _,rfl,rfl,SqL.of aE,gI V.int [2,3,3,4,4,5,6,12] 0 g8.1 g8.2,?_,?_⟩⟩
  ·have s1:∀ o,aP H (upd H p o):=λo b u e=>by rw[aL (aI e hp)]; exact e
   refine⟨_,rfl,_,_,rfl,rfl,⟨by decide,by decide⟩,_,_,rfl,rfl,(by show (0:Int)<16; decide),rfl,_,rfl,eI (λh1=>?_) (λh1=>?_)⟩
   ·have e1:c/8%16=1:=by have:=xAg h1; exact V.int.inj this
    have g2:=cX (c/128) (m:=2) (by decide);refine⟨_,rfl,_,_,rfl,rfl,⟨by decide,by decide⟩,_,_,rfl,rfl,(by show (0:Int)<2; decide),?_,s1 _⟩;have e:((gF c:Nat):Int)=c/128%2:=by unfold gF; rw[xAu e1]; omega
    rw[e];rfl
   ·have e1:¬ c/8%16=1:=λz=>h1 (xAk (congrArg V.int z));refine⟨?_,s1 _⟩;have e:((gF c:Nat):Int)=([2,3,3,4,4,5,6,12]:List Int).getD (c%8).toNat 0:=by unfold gF; rw[xAt e1]; exact (vZ c).2.symm
    rw[e];rfl
  ·rintro σ H1 ⟨rfl,s1⟩;refine⟨_,rfl,_,_,rfl,rfl,⟨by decide,by decide⟩,_,rfl,c/256,gF c,rfl,xAn (nM c) (by decide),λl H2 s2 hl hl2=>?_⟩;generalize hss:eB (c/256) (gF c)=ss at *;have hlen:ss.length=gF c:=by rw[<- hss]; unfold eB; rw[xAa,xBu]
   have hle:=nM c;refine⟨_,rfl,_,rfl,l,rfl,⟨_,SqL.of hl2⟩,λD hD=>pX (xs:=ss.map V.str) (λi σ' H'=>∃ v0 v1,σ'=[v0,v1,some (.int c)]/\H' D=some (.lst ((mJ c ss i).map V.str))/\aP H2 H'/\(mJ c ss i).length<=i) ?_ ?_ ?_ ?_⟩
   ·exact⟨none,none,rfl,aE,λb o e=>by rw[aL (aI e hD)]; exact e,xAl _⟩
   ·rintro i σ' H' _ ⟨v0,v1,rfl,h1,h2,h3⟩;exact SqL.of (h2 l _ hl2)
   ·rintro i x σ' H' t hx ⟨v0,v1,rfl,h1,h2,h3⟩ ht;rw[xAf] at hx;cases hz:ss[i]? with
    | none=>rw[hz] at hx; cases hx
    | some z=>
     rw[hz] at hx;cases hx;have hi:i<ss.length:=(xAd.mp hz).1;have nD:D≠t:=λe=>by rw[e,ht] at h1; cases h1
     have sT:aP H2 (upd H' t (.tup [.int i,.str z])):=λb o e=>by rw[aL (aI (h2 b o e) ht)]; exact h2 b o e
     refine⟨t,_,rfl,SqT.of aE,rfl,_,_,rfl,_,_,rfl,rfl,_,rfl,_,rfl,c,i,rfl,_,_,rfl,rfl,(by show (0:Int)<4; decide),rfl,_,rfl,eI (λh4=>?_) (λh4=>?_)⟩
     ·have e4:RW.mixed c i%4=1:=by have:=xAg h4; exact V.int.inj this
      have eu:mJ c ss (i+1)=mJ c ss i++[z]:=by
       unfold mJ;rw[xCu,xDf];simp[e4,hz]
      refine⟨_,rfl,_,by rw[aL nD]; exact h1,bO (by rw[xAa]; omega),some (.int i),some (.str z),rfl,?_,?_,?_⟩
      ·rw[aE,eu,xAm];rfl
      ·intro b o e;rw[aL (aI e hD)];exact sT b o e
      ·rw[eu,xAr];show _+1<=_;omega
     ·have e4:¬ RW.mixed c i%4=1:=λz=>h4 (xAk (congrArg V.int z))
      have eu:mJ c ss (i+1)=mJ c ss i:=by
       unfold mJ;rw[xCu,xDf];simp[e4]
      refine⟨some (.int i),some (.str z),rfl,?_,sT,by rw[eu]; omega⟩;rw[aL nD,eu];exact h1
   ·rintro σ' H' ⟨v0,v1,rfl,h1,h2,h3⟩;refine⟨by show 2<=sizeLine; decide,λt ht=>?_⟩;rw[xAa] at h1;have sT:∀ o,aP H' (upd H' t o):=λo b u e=>by rw[aL (aI e ht)]; exact e
    exact q t l D _ (((s1.trans s2).trans h2).trans (sT _)) aE (sT _ _ _ (h2 l _ hl2)) (sT _ _ _ h1)
theorem aEm:∀ x y:List Nat,xBv x y=false->xBv y x=false->x=y
 | [],[],_,_=>rfl
 | [],_::_,h,_=>by simp[PySem.Spec.ltCps] at h
 | _::_,[],_,h=>by simp[PySem.Spec.ltCps] at h
 | a::r,b::t,h,h'=>by
  simp only[PySem.Spec.ltCps,Bool.or_eq_false_iff,decide_eq_false_iff_not,Bool.and_eq_false_iff,beq_eq_false_iff_ne] at h h';have e:a=b:=by omega
  subst e;have h1:xBv r t=false:=by rcases h.2 with z | z; exact xAz rfl z; exact z
  have h2:xBv t r=false:=by rcases h'.2 with z | z; exact xAz rfl z; exact z
  rw[aEm r t h1 h2]
theorem aPu:∀ x y z:List Nat,xBv y x=false->xBv z y=false->xBv z x=false
 | [],_,[],_,_=>rfl
 | [],_,_::_,_,_=>rfl
 | _::_,[],_,h,_=>by simp[PySem.Spec.ltCps] at h
 | _::_,_::_,[],_,h=>by simp[PySem.Spec.ltCps] at h
 | a::r,b::t,c::u,h,h'=>by
  simp only[PySem.Spec.ltCps,Bool.or_eq_false_iff,decide_eq_false_iff_not,Bool.and_eq_false_iff,beq_eq_false_iff_ne] at h h' ⊢;refine⟨by omega,?_⟩
  by_cases e:c=a
  ·refine .inr ?_;have h1:xBv t r=false:=by rcases h.2 with z | z; exact xAz (by omega) z; exact z
   have h2:xBv u t=false:=by rcases h'.2 with z | z; exact xAz (by omega) z; exact z
   exact aPu r t u h1 h2
  ·exact .inl e
abbrev leS (a b:Str):Prop:=xBv b.cps.toList a.cps.toList=false
theorem tP:∀ (r:List Str) (p:Str),PyProof.Rows.risingS p r=true->(∀ z∈r,leS p z)/\r.Pairwise leS
 | [],_,_=>⟨λ_ h=>xAz h (by simp),xHi⟩
 | x::r,p,h=>by
  simp only[PyProof.Rows.risingS,Bool.and_eq_true,Bool.not_eq_true'] at h;obtain⟨h1,h2⟩:=tP r x h.2;refine⟨λz hz=>?_,.cons h1 h2⟩;rcases xAo.mp hz with rfl | hz
  ·exact h.1
  ·exact aPu _ _ _ h.1 (h1 z hz)
theorem qJ {l:List Str}(h:xBp l=true):l.Pairwise leS:=by
 cases l with
 | nil=>exact .nil
 | cons x r=>
  obtain⟨h1,h2⟩:=tP r x h;exact .cons h1 h2
theorem aEj:∀ (l m:List Str),l.Perm m->l.Pairwise leS->m.Pairwise leS->l=m
 | [],m,p,_,_=>(List.Perm.nil_eq p)
 | a::r,[],p,_,_=>by have:=p.length_eq; simp at this
 | a::r,b::t,p,h,h'=>by
  have e:a=b:=by
   by_cases e:a=b
   ·exact e
   ·have h1:a∈t:=by
     rcases xAo.mp (p.mem_iff.mp (xBk ..)) with z | z
     ·exact xAz z e
     ·exact z
    have h2:b∈r:=by
     rcases xAo.mp (p.mem_iff.mpr (xBk ..)) with z | z
     ·exact xAz z.symm e
     ·exact z
    have g1:leS a b:=xHx h h2;have g2:leS b a:=xHx h' h1;have g:=aEm _ _ g2 g1;obtain⟨⟨x⟩⟩:=a;obtain⟨⟨y⟩⟩:=b;have g':x=y:=g;rw[g']
  subst e;rw[aEj r t p.cons_inv (xJd h) (xJd h')]
theorem aBi {l m s:List Str}(p:l.Perm s)(q:m.Perm s)(h:xBp l=true)(h':xBp m=true):l=m:=
 aEj l m (p.trans q.symm) (qJ h) (qJ h')
def aEl (r s k:Nat):Str:=kS.getD ((r+s*k)%12) ""
theorem aOd (c:Int)(m:Nat):((c+(m:Int))%12).toNat=((c%12).toNat+m)%12:=by
 have h:=cX c (m:=12) (by decide);have e:c%12=((c%12).toNat:Int):=(Int.toNat_of_nonneg h.1).symm;generalize (c%12).toNat=r at e;rw[<- Int.emod_add_emod,e,<- Int.natCast_add];exact congrArg Int.toNat (Int.natCast_emod (r+m) 12).symm
theorem aKz (c:Int)(k:Nat):qU c k=aEl (c%12).toNat (iB c).toNat k:=by
 unfold qU aEl;congr 1;rcases kQ c with e | e | e | e
 ·rw[e];exact aOd c (1*k)
 ·rw[e];exact aOd c (5*k)
 ·rw[e];exact aOd c (7*k)
 ·rw[e];exact aOd c (11*k)
theorem aXn {α:Type}{p:List α->Prop}(h:∀ a,p [a]):∀ us:List α,us.length=1->p us
 | [a],_=>h a
theorem aUg {α:Type}{p:List α->Prop}(h:∀ a b,p [a,b]):∀ us:List α,us.length=2->p us
 | [a,b],_=>h a b
theorem aUf {α:Type}{p:List α->Prop}(h:∀ a b c,p [a,b,c]):∀ us:List α,us.length=3->p us
 | [a,b,c],_=>h a b c
theorem aRq:∀ r,r<12->∀ s∈([1,5,7,11]:List Nat),((List.range 12).map (aEl r s)).Nodup:=by decide +kernel
theorem aBj:∀ z∈kS,aW z=true:=by decide +kernel
theorem aCo (c:Int)(k:Nat):qU c k∈kS:=by
 unfold qU;have h:=cX (c+iB c*k) (m:=12) (by decide);have hl:((c+iB c*k)%12).toNat<kS.length:=by show _<12; omega
 rw[xBl,xAe hl];exact xCg hl
theorem zU {c:Int}{n:Nat}{z:Str}(h:z∈eB c n):z∈kS:=by
 obtain⟨k,_,rfl⟩:=xAp.mp h;exact aCo c k
theorem uZ (c:Int){n:Nat}(hn:n<=12):(eB c n).Nodup:=by
 have h:=cX c (m:=12) (by decide);have hs:(iB c).toNat∈([1,5,7,11]:List Nat):=by rcases kQ c with e | e | e | e <;> rw[e] <;> decide
 have hN:=aRq (c%12).toNat (by omega) _ hs
 have e:eB c n=((List.range 12).map (aEl (c%12).toNat (iB c).toNat)).take n:=by
  unfold eB;rw[<- List.map_take,List.take_range,Nat.min_eq_left hn];exact xGt λk _=>aKz c k
 rw[e];exact hN.sublist (xHe n _)
theorem yS:∀ (pre seen suf:List Str),(∀ z∈pre,aW z=true)->(seen++pre).Nodup->uX seen (pre++suf)=uX (seen++pre) suf
 | [],seen,suf,_,_=>by simp
 | z::r,seen,suf,h,hn=>by
  show (if aW z=true then (if z∈seen then some Why.twice else uX (seen++[z]) (r++suf)) else some .noName)=_
  have hz:z∉seen:=λm=>by
   have:=(xHf.mp hn).2.2 z m z (xBk ..)
   exact this rfl
  rw[xAu (h z (xBk ..)),xAt hz,yS r (seen++[z]) suf (λy hy=>h y (xBg _ hy)) (by simpa using hn)]
  simp
theorem aBw {ss:List Str}(h:ss.length<=12)(hn:∀ z∈ss,aW z=true)(hd:ss.Nodup):jP ss=none:=by
 unfold jP;rw[xAt (by omega)]
 have:=yS ss [] [] hn (by simpa using hd)
 rw[xBo] at this;rw[this];rfl
theorem aDc {c:Int}{ss:List Str}{z:Str}(h:z∈rG c ss):z∈ss:=by
 unfold rG at h;obtain⟨k,_,e⟩:=xCd.mp h;split at e
 ·exact xBa e
 ·cases e
theorem aDd (c:Int)(ss:List Str):(rG c ss).length<=ss.length:=by
 unfold rG;exact xAn (xDo ..) (by rw[xBu]; exact xAl _)
theorem aMa {ss fs:List Str}(h:ss.length<=12)(hn:∀ z∈ss,aW z=true)(hd:ss.Nodup)(hf:∀ z∈fs,z∈ss):mO ss fs=none:=by
 unfold mO;rw[aBw h hn hd];exact xAu (xBj.mpr λz hz=>by rw[hn z (hf z hz),xAk (hf z hz)]; rfl)
end
end K35
namespace K35
open PySem L2 Ky PySem.W
seal L2.PE L2.PS L2.PSs L2.PA L2.PT L2.PW L2.PG L2.PI L2.PTs L2.OpR L2.IxR L2.CallR L2.MtM L2.MtR
unseal L2.MtM L2.MtR
theorem aFm {n:Nat}(h:n<=4000):n<sizeLine:=xCc h (by decide)
section
variable {P:Program}{w:World}{K:xAb}{mg:xSO}{base:Heap}
theorem aIt:aR ["begin","ends","doors","rooms","room","deed","far"] ["begin","ends","doors"] (aB aBn):=xfs
theorem aJy {f:Addr}{fd:FuncData}(F:Fun K "named_rooms" "named_rooms" aBn f fd):aQ P w K mg base CX0 1 f fd ["begin","ends","doors"] aDx:=by
 refine F.ok aIt (λvs H Q E h=>?_) (λcdv A outer s H vs Q E hr h=>?_)
 ·obtain⟨b,e,d,es,ds,rfl,_⟩:=h;rfl
 ·obtain⟨b,e,d,es,ds,rfl,hE,hD,hle,hld,q⟩:=h
  refine⟨_,aJ (bJ (i:=3) aIt.nd rfl (xAy rfl) (cA (pac (pv 0) aF)))
   (aJ (dA (lW xBq xEn xEm nK (pv 3) (pac (pv 1) aF)))
   (aJ (dZ PassesOwn.never rfl (cU (pv 2)) (eO rfl (aY (aS (i:=4) aIt.nd rfl (xAy rfl)) (aY (aS (i:=5) aIt.nd rfl (xAy rfl)) (aY (aS (i:=6) aIt.nd rfl (xAy rfl)) dO))))
    (aJ (dA (lW xBq xDn xDm iY (pv 3) (pac (pv 4) aF)))
    (aM (dA (lW xBq xDn xDm iY (pv 3) (pac (pv 6) aF))))))
   (aM (aU (pv 3))))),?_⟩
  obtain⟨ts,hd,htl,htt⟩:=hD.ex;refine⟨_,rfl,by show 1<=sizeLine; decide,λp hp=>⟨_,rfl,.inl ⟨rfl,_,SqL.of aE⟩,_,rfl,p,e,_,_,rfl,rfl,aE,smu hp _ _ hE,iL (by rw[xAa]; show 1+_<=_; omega),?_⟩⟩;have s0:aP H _:=smu (o:=.lst [.str b]) hp;have s1:∀ ys,aP H (upd (upd H p (.lst [.str b])) p (.lst ys)):=λys c o h=>by rw[aL (aI h hp)]; exact s0 c o h
  refine⟨_,rfl,d,rfl,⟨_,SqL.of (s1 _ _ _ hd)⟩,?_⟩;refine dE (xs:=ts.map V.ref) (λi σ H'=>∃ x4 x5 x6,σ=[some (.str b),some (.ref e),some (.ref d),some (.ref p),x4,x5,x6]/\H' p=some (.lst ((b::es++fJ (ds.take i)).map V.str))/\aP H H') ?_ ?_ ?_ ?_
  ·refine⟨none,none,none,rfl,?_,s1 _⟩;rw[aE];show some (HO.lst ([V.str b]++es.map V.str))=some (HO.lst ((b::es++[]).map V.str));rw[xBo];rfl
  ·rintro i σ H' _ ⟨x4,x5,x6,rfl,h1,h2⟩;exact SqL.of (h2 _ _ hd)
  ·rintro i x σ H' hx ⟨x4,x5,x6,rfl,h1,h2⟩;rw[xAf] at hx;cases ht:ts[i]? with
   | none=>rw[ht] at hx; cases hx
   | some t=>
    rw[ht] at hx;cases hx;have hi:i<ds.length:=by rw[<- htl]; exact (xAd.mp ht).1
    have hz:ds[i]?=some ds[i]:=xAe hi;generalize ds[i]=z at hz;have e1:=uI hz;have hl:(fJ (ds.take i)).length<=2000:=by rw[oB,xBe]; omega
    refine⟨t,_,rfl,SqT.of (h2 _ _ (htt i t z ht hz)),rfl,_,_,rfl,_,_,rfl,_,_,rfl,rfl,?_⟩;refine⟨_,rfl,.inl ⟨rfl,_,SqL.of h1⟩,_,rfl,p,_,_,rfl,rfl,h1,?_,?_⟩
    ·rw[xAa,xAr,xBm];exact xCc (m:=3001) (by omega) (by decide)
    refine⟨_,rfl,.inl ⟨rfl,_,SqL.of aE⟩,_,rfl,p,_,_,rfl,rfl,aE,?_,?_⟩
    ·rw[xAr,xAa,xAr,xBm];exact xCc (m:=3002) (by show _+1<=_; omega) (by decide)
    refine⟨_,_,_,rfl,?_,λc o h=>?_⟩
    ·rw[aE,e1]
     simp
    ·rw[aL (aI h hp),aL (aI h hp)];exact h2 c o h
  ·rintro σ H' ⟨x4,x5,x6,rfl,h1,h2⟩;rw[xAa,htl,xAx] at h1;exact⟨_,rfl,q p H' h2 hp h1⟩
theorem aTj:aR ["rooms","room"] ["rooms"] (aB qK):=xfs
theorem zN {f fN:Addr}{fd fdN:FuncData}{cl:Why->Addr}(F:Fun K "refuse_rooms" "refuse_rooms" qK f fd)(T:Txt K mg)(Ex:Exc K mg cl)
  (FN:Fun K "is_name" "is_name" oZ fN fdN)(bN:aX K fdN ["thing"] [])(mN:mg "is_name" = some (.ref fN)) :
  aQ P w K mg base (CXE P w) 2 f fd ["rooms"] (tF K cl):=by
 have GN:aQ P w K mg base CX0 1 fN fdN ["thing"] (tG K):=sM FN T;refine okE F aTj (λvs H Q E h=>?_) (λcdv A outer s H vs Q E hr h D=>?_)
 ·obtain⟨a,ss,rfl,_⟩:=h;rfl
 ·obtain⟨a,ss,rfl,hS,hsh,q⟩:=h
  refine⟨_,aM (dZ PassesOwn.leaving rfl (cU (pv 0)) (aS (i:=1) aTj.nd rfl (xAy rfl))
    (aM (cK (jC (jW (bX GN hr rfl mN FN.kp bN .nil bZ (pac (pv 1) aF)))) (aM (eZ D rfl (by rfl) Ex.nn (Ex.x .noName) (pac aO aF))) bS))),?_⟩
  refine⟨_,rfl,a,rfl,⟨_,hS⟩,?_⟩;refine dE (xs:=ss.map V.str) (λi σ H'=>∃ nv,σ=[some (.ref a),nv]/\aP H H'/\(ss.take i).all aW=true) ?_ ?_ ?_ ?_
  ·exact⟨none,rfl,aP.refl H,rfl⟩
  ·rintro i σ H' _ ⟨nv,rfl,h1,h2⟩;exact h1.seq hS
  ·rintro i x σ H' hx ⟨nv,rfl,h1,h2⟩;rw[xAf] at hx;cases hz:ss[i]? with
   | none=>rw[hz] at hx; cases hx
   | some z=>
    rw[hz] at hx;cases hx;obtain⟨hi,hzi⟩:=xAd.mp hz;have hzl:z.length<=1000:=hsh z (xBa hz);refine⟨_,rfl,.str z,rfl,.inl ⟨z,rfl,xEu (bO hzl),λH2 sm2=>⟨_,rfl,?_⟩⟩⟩
    by_cases hn:aW z=true
    ·rw[hn];refine fX ⟨some (.str z),rfl,h1.trans sm2,?_⟩;rw[xBf,hz,xHu,h2];show (true&&(aW z&&true))=true;rw[hn];rfl
    ·rw[xCb.mpr hn];refine gX ⟨by show 1<=sizeLine; decide,?_⟩
     have:=q H2 (h1.trans sm2)
     rw[vB h2,xDh hi,hzi] at this;unfold jJ at this;rw[xAt (by rw[xFw,xCb.mpr hn]; exact xAv)] at this;exact this
  ·rintro σ H' ⟨nv,rfl,h1,h2⟩;rw[xAa,xAx] at h2
   have:=q H' h1
   unfold jJ at this;rw[xAu h2] at this;exact this
theorem aFo:aR ["rooms","doors","leads","room","deed","far"] ["rooms","doors"] (aB aBp):=xfs
theorem aKf {f:Addr}{fd:FuncData}(F:Fun K "leads_of" "leads_of" aBp f fd):aQ P w K mg base CX0 1 f fd ["rooms","doors"] (aDy K):=by
 refine F.ok aFo (λvs H Q E h=>?_) (λcdv A outer s H vs Q E hr h=>?_)
 ·obtain⟨a,d,rs,ds,rfl,_⟩:=h;rfl
 ·obtain⟨a,d,rs,ds,rfl,hR,hD,hlr,hld,hin,hap,q⟩:=h;have hu:=jH hr
  refine⟨_,aJ (bJ (i:=2) aFo.nd rfl (xAy rfl) lV)
   (aJ (dZ PassesOwn.never rfl (cU (pv 0)) (aS (i:=3) aFo.nd rfl (xAy rfl)) (aM (jR hu (pv 2) (pv 3) lV rfl)))
   (aJ (dZ PassesOwn.never rfl (cU (pv 1)) (eO rfl (aY (aS (i:=3) aFo.nd rfl (xAy rfl)) (aY (aS (i:=4) aFo.nd rfl (xAy rfl)) (aY (aS (i:=5) aFo.nd rfl (xAy rfl)) dO))))
    (aJ (cK (qN (tW hu (pv 4) (iQ hu (pv 2) (pv 3) (λ_ _=>rfl)))) (aM aEi) bS)
    (aM (jR hu (iQ hu (pv 2) (pv 3) (λ_ _=>rfl)) (pv 4) (pv 5) rfl))))
   (aM (aU (pv 2))))),?_⟩
  obtain⟨ts,hd,htl,htt⟩:=hD.ex;intro l hl;have s0:aP H (upd H l (.dK [])):=smu hl;refine⟨_,rfl,a,rfl,⟨_,s0.seq hR⟩,?_⟩;refine dE (xs:=rs.map V.str) (λi σ H'=>∃ x3 kvs g,σ=[some (.ref a),some (.ref d),some (.ref l),x3,none,none]/\eX H' l (rs.take i) [] kvs g/\(∀ z∈rs.take i,H (g z)=none)/\kvs.length<=i/\aP H H') ?_ ?_ ?_ ?_
  ·exact⟨none,[],λ_=>0,rfl,⟨aE,rfl,λz hz=>(nomatch hz),λz hz=>(nomatch hz),λz hz=>(nomatch hz),λz hz=>(nomatch hz)⟩,λz hz=>(nomatch hz),xAl _,s0⟩
  ·rintro i σ H' _ ⟨x3,kvs,g,rfl,L,hg,hk,sm⟩;exact sm.seq hR
  ·rintro i x σ H' hx ⟨x3,kvs,g,rfl,L,hg,hk,sm⟩;rw[xAf] at hx;cases hz:rs[i]? with
   | none=>rw[hz] at hx; cases hx
   | some z=>
    rw[hz] at hx;cases hx;have hi:i<rs.length:=(xAd.mp hz).1;have et:rs.take (i+1)=rs.take i++[z]:=by rw[xBf,hz]; rfl
    intro c hc;have cl:c≠l:=λe=>by rw[e,L.dk] at hc; cases hc
    have hcH:H c=none:=by
     cases e:H c with
     | none=>rfl
     | some o=>rw[sm _ _ e] at hc; cases hc
    refine⟨_,rfl,_,rfl,l,_,rfl,qB.k (k:=Sum.inr z) (by rw[aL (Ne.symm cl)]; exact L.dk) (aFm (by omega)),?_⟩;refine⟨_,_,_,rfl,by rw[et]; exact L.more hc z,λy hy=>?_,?_,λb o e=>?_⟩
    ·rw[et] at hy
     by_cases e:y=z
     ·show H (if y=z then c else g y)=none
      rw[xAu e]; exact hcH
     ·show H (if y=z then c else g y)=none
      rw[xAt e];exact hg y ((xBy.mp hy).resolve_right λw=>e (xAi.mp w))
    ·exact xAn (gG _ _ _) (Nat.succ_le_succ hk)
    ·rw[aL (aI e hl),aL (aI e hcH)];exact sm b o e
  ·rintro σ H1 ⟨x3,kvs,g,rfl,L,hg,hk,sm⟩;rw[xAa,xAx] at L hg;refine⟨_,rfl,d,rfl,⟨_,SqL.of (sm _ _ hd)⟩,?_⟩;refine dE (xs:=ts.map V.ref) (λi σ H'=>∃ x3 x4 x5,σ=[some (.ref a),some (.ref d),some (.ref l),x3,x4,x5]/\eX H' l rs (ds.take i) kvs g/\aP H H') ?_ ?_ ?_ ?_
   ·exact⟨_,_,_,rfl,L,sm⟩
   ·rintro i σ H' _ ⟨x3,x4,x5,rfl,h1,h2⟩;exact SqL.of (h2 _ _ hd)
   ·rintro i x σ H' hx ⟨x3,x4,x5,rfl,L',sm'⟩;rw[xAf] at hx;cases ht:ts[i]? with
    | none=>rw[ht] at hx; cases hx
    | some t=>
     rw[ht] at hx;cases hx;have hi:i<ds.length:=by rw[<- htl]; exact (xAd.mp ht).1
     have hz:ds[i]?=some ds[i]:=xAe hi;generalize ds[i]=z at hz;have zin:=hin z (xBa hz)
     have gv:gK H' l (.str z.1) (some (.ref (g z.1))):=by
      have:=gK.k (k:=Sum.inr z.1) L'.dk
      rw[L'.val _ zin] at this;exact this
     have gi:=gK.k (k:=Sum.inr z.2.1) (L'.dd _ zin);rw[aAe (hap.at hz)] at gi;refine⟨t,_,rfl,SqT.of (sm' _ _ (htt i t z ht hz)),rfl,_,_,rfl,_,_,rfl,_,_,rfl,rfl,?_⟩;refine⟨_,rfl,_,rfl,_,rfl,l,_,rfl,gv,g z.1,none,rfl,gi,_,rfl,fX ?_⟩;refine⟨_,rfl,_,rfl,_,rfl,l,_,rfl,gv,_,rfl,g z.1,_,rfl,qB.k (k:=Sum.inr z.2.1) (L'.dd _ zin) (bO (xAn (aOo _ _) (by rw[xBe]; omega))),?_⟩;refine⟨_,_,_,rfl,L'.door hz zin hap,λb o e=>?_⟩;rw[aL (aI e (hg _ zin))];exact sm' b o e
   ·rintro σ H' ⟨x3,x4,x5,rfl,h1,h2⟩;rw[xAa,htl,xAx] at h1;exact⟨_,rfl,q l kvs g H' h2 hl hg h1⟩
abbrev NMI:List Str:=["self","deeds","begin","ends","doors","more","rooms","known"]
theorem aQu:aR NMI ["self","deeds","begin","ends","doors","more"] (aB iM):=xfs
inductive lL (K:xAb)(C CM:Addr)(cl:Why->Addr)(vs:List V)(H:Hp)(Q:VK)(E:XK):Prop
 | mk (x dd e d dx:Addr)(b:Str)(y:V)(es ms:List Str)(ds:List Dr)(wk:List (Key×V))(h0_:vs=[.ref x,.ref dd,.str b,.ref e,.ref d,y])(h1_:H x=some (.ins CM dx []))(h2_:WAt C H dd wk)
  (h3_:H e=some (.lst (es.map V.str)))(h4_:cQ H d ds)(h5_:(y=.non/\ms=[])\/∃ m,y=.ref m/\H m=some (.lst (ms.map V.str)))
  (h6_:es.length<=200/\ds.length<=800/\ms.length<=200)(h7_:(cC b es ds).all aW=true)(h9_:hZ (aZ ds ms))(h10_:Apart ds)(h11_:(mks (cC b es ds) []).length<=60)
  (h8_:¬ ((aZ ds ms).map V.str).all (cY wk)=true->∀ H',aP H H'->E (.ref (cl .noDeed)) none H')
  (h12_:((aZ ds ms).map V.str).all (cY wk)=true->∀ (l e' k:Addr) (kvs:List (Key×V)) (g:Str->Addr) H',SameBut x H H'->MAt CM H' x dx l dd e' k b es (aZ ds ms) ds kvs g->Q .non H')
theorem oX.toD {K:xAb}{C CM:Addr}{cl:Why->Addr}{vs:List V}{H:Hp}{Q:VK}{E:XK}(h:oX K C CM vs H Q E):lL K C CM cl vs H Q E:=by
 obtain⟨x,dd,e,d,dx,b,y,es,ms,ds,wk,a0,a1,a2,a3,a4,a5,a6,a7,a8,a9,a10,a11,q⟩:=h;exact⟨x,dd,e,d,dx,b,y,es,ms,ds,wk,a0,a1,a2,a3,a4,a5,a6,a7,a9,a10,a11,λz=>xAz a8 z,λ_=>q⟩
theorem aQ.weaker {P:Program}{w:World}{K:xAb}{mg:xSO}{base:Heap}{CX:CXT}{k:Nat}{f:Addr}{fd:FuncData}{ps:List Str}{sp sp':Sp}(G:aQ P w K mg base CX k f fd ps sp)(h:∀ vs H Q E,sp' vs H Q E->sp vs H Q E):aQ P w K mg base CX k f fd ps sp':=
 ⟨λvs H Q E z=>G.len vs H Q E (h _ _ _ _ z),λA outer s H args us vs Q E hr e0 hb r z=>G.run A outer s H args us vs Q E hr e0 hb r (h _ _ _ _ z)⟩
theorem aGk {f fN fR fL fK fQ C CM:Addr}{fd fdN fdR fdL fdK fdQ:FuncData}{cl:Why->Addr}(F:aMo K "__init__" "Machine.__init__" iM f fd)(T:Txt K mg)(DC:yB K C)(MC:kJ K CM)
  (mMR:∃ t,mg "MOST_ROOMS"=some (.int 60 t))
  (GN:aQ P w K mg base CX0 1 fN fdN ["begin","ends","doors"] aDx)(kN:keepIn K (.ref fN)=true)(bN:aX K fdN ["begin","ends","doors"] [])(mN:mg "named_rooms" = some (.ref fN))
  (GR:aQ P w K mg base (CXE P w) 2 fR fdR ["rooms"] (tF K cl))(kR:keepIn K (.ref fR)=true)(bR:aX K fdR ["rooms"] [])(mR:mg "refuse_rooms" = some (.ref fR))
  (GL:aQ P w K mg base CX0 1 fL fdL ["rooms","doors"] (aDy K))(kL:keepIn K (.ref fL)=true)(bL:aX K fdL ["rooms","doors"] [])(mL:mg "leads_of" = some (.ref fL))
  (GK:aQ P w K mg base CX0 1 fK fdK ["names"] (sJ K))(kK:keepIn K (.ref fK)=true)(bK:aX K fdK ["names"] [])(mK:mg "marks_of" = some (.ref fK))
  (GQ:aQ P w K mg base (CXE P w) 3 fQ fdQ ["self","row"] (iC K C cl))(bQ:aX K fdQ ["self","row"] [])(mQ:eE K C "require" fQ) :
  aQ P w K mg base (CXE P w) 4 f fd ["self","deeds","begin","ends","doors","more"] (lL K C CM cl):=by
 obtain⟨tr,mMR⟩:=mMR;refine aTv F aQu (λvs H Q E h=>?_) (λcdv A outer s H vs Q E hr h D=>?_)
 ·obtain⟨x,dd,e,d,dx,b,y,es,ms,ds,wk,rfl,_⟩:=h;rfl
 ·obtain⟨x,dd,e,d,dx,b,y,es,ms,ds,wk,rfl,hx,hW,hE,hD,hM,⟨hle,hld,hlm⟩,hnm,hsh,hap,h60,qe,q⟩:=h;have hr1:cM 1 _:=hr.mono (by decide);have hr2:cM 2 _:=hr.mono (by decide)
  refine⟨_,aJ (bJ (i:=6) aQu.nd rfl (xAy rfl) (bX GN hr1 rfl mN kN bN .nil bZ (pac (pv 2) (pac (pv 3) (pac (pv 4) aF)))))
   (aJ (dA (bX GR hr2 rfl mR kR bR .nil (D.passes λ_ _ _ z=>z) (pac (pv 6) aF)))
   (aJ (gE (i:=7) (N':=["room","deed","far"]) (nown:=3) (js:=[]) rfl aQu.nd rfl rfl rfl
     xbs (cJ (aB iM) NMI rfl rfl (by decide +kernel))
     ⟨λ_ _ _ _=>show PG _ _ (aAg K 3 (iN (hU 0) (iN (hU 1) (iN (hU 2) aAh)))) from eO rfl (aY (aS (i:=0) (show List.Nodup (["room","deed","far"]:List Str) by decide +kernel) rfl (xAy rfl) (.inr rfl)) (aY (aS (i:=1) (show List.Nodup (["room","deed","far"]:List Str) by decide +kernel) rfl (xAy rfl) (.inr rfl)) (aY (aS (i:=2) (show List.Nodup (["room","deed","far"]:List Str) by decide +kernel) rfl (xAy rfl) (.inr rfl)) dO))),
      λ_ _ _ _=>eV,λ_ _ _ _=>pv 1⟩
     (cU (pv 4)))
   (jQ (λσ H'=>∃ p c,σ=[some (.ref x),some (.ref dd),some (.str b),some (.ref e),some (.ref d),some y,some (.ref p),some (.ref c)]/\H' p=some (.lst ((cC b es ds).map V.str))/\H' c=some (.lst ((aZ ds ms).map V.str))/\aP H H')
    (cK (aV jS (pv 5) eJ (bC _)) (aM (dA (lW xBq xEn xEm nK (pv 7) (pac (pv 5) aF)))) bS)
   (aJ (dA (cS (pv 1) DC.cl mQ GQ hr bQ .nil (D.passes λ_ _ _ z=>z) (pac (pv 7) aF)))
   (aJ (gL (pv 0) (bX GL hr1 rfl mL kL bL .nil bZ (pac (pv 6) (pac (pv 4) aF))) rfl)
   (aJ (cK (aV pJ (cB aHn (by rfl) T.len Bo.len (pac (cE (pv 0) rfl) aF)) (hG (v:=.int 60) (by rfl) mMR ⟨_,rfl⟩) (bC _)) (aM aEi) bS)
   (aJ (gL (pv 0) (pv 1) rfl)
   (aJ (gL (pv 0) (pv 2) rfl)
   (aJ (gL (pv 0) (bX GK hr1 rfl mK kK bK .nil bZ (pac (pv 3) aF)) rfl)
   (aM (gL (pv 0) (bX GK hr1 rfl mK kK bK .nil bZ (pac (pv 7) aF)) rfl))))))))))),?_⟩
  have hxe:∀ {a:Addr}{o:HO},H a=some o->(∀ fs,o≠.ins CM dx fs)->a≠x:=λ{a o} h n e=>by rw[e,hx] at h; exact n _ (xBt h).symm
  refine⟨_,rfl,_,rfl,_,rfl,b,e,d,es,ds,rfl,hE,hD,by omega,by omega,λp H1 s1 hp hp1=>?_⟩;refine⟨_,rfl,p,_,rfl,SqL.of hp1,tI hnm,λH2 s2=>?_⟩;unfold jJ;rw[xAu hnm];have s12:=s1.trans s2;obtain⟨ts,hd,htl,htt⟩:=(hD.same s12).ex;have hp2:=s2 _ _ hp1;clear hp1;refine⟨_,rfl,d,rfl,⟨_,SqL.of hd⟩,λc hc=>?_⟩;refine hV (xs:=ts.map V.ref) (λi σ' H'=>∃ v0 v1 v2,σ'=[v0,v1,v2]/\H' c=some (.lst (((ds.take i).map (·.2.1)).map V.str))/\aP H2 H') ?_ ?_ ?_ ?_
  ·exact⟨none,none,none,rfl,aE,smu hc⟩
  ·rintro i σ' H' _ ⟨v0,v1,v2,rfl,h1,h2⟩;exact SqL.of (h2 _ _ hd)
  ·rintro i v σ' H' hv ⟨v0,v1,v2,rfl,h1,h2⟩;rw[xAf] at hv;cases ht:ts[i]? with
   | none=>rw[ht] at hv; cases hv
   | some t=>
    rw[ht] at hv;cases hv;have hi:i<ds.length:=by rw[<- htl]; exact (xAd.mp ht).1
    have hz:ds[i]?=some ds[i]:=xAe hi;generalize ds[i]=z at hz;refine⟨t,_,rfl,SqT.of (h2 _ _ (htt i t z ht hz)),rfl,_,_,rfl,_,_,rfl,_,_,rfl,rfl,?_⟩;refine⟨_,rfl,_,h1,bO (by rw[xAa,xAa,xBe]; omega),some (.str z.1),some (.str z.2.1),some (.str z.2.2),rfl,?_,λa o h=>?_⟩
    ·rw[aE,xBf,hz]
     simp
    ·rw[aL (aI h hc)];exact h2 a o h
  ·rintro σ' H3 ⟨v0,v1,v2,rfl,h1,h2⟩;rw[xAa,htl,xAx] at h1
   have hcH:H c=none:=by
    cases h:H c with
    | none=>rfl
    | some o=>rw[s12 _ _ h] at hc; cases hc
   refine⟨?_,?_⟩
   ·rcases hM with⟨rfl,rfl⟩ | ⟨m,rfl,hm⟩
    ·refine⟨_,rfl,rfl,_,rfl,fX ?_⟩;refine⟨p,c,rfl,h2 _ _ hp2,?_,s12.trans h2⟩;rw[h1];unfold aZ;rw[xBo]
    ·refine⟨_,rfl,rfl,_,rfl,gX ?_⟩;refine⟨_,rfl,.inl ⟨rfl,_,SqL.of h1⟩,_,rfl,c,m,_,_,rfl,rfl,h1,h2 _ _ (s12 _ _ hm),iL (by rw[xAa,xAa,xAa]; omega),p,c,rfl,?_,?_,λa o h=>?_⟩
     ·rw[aL (aI hp2 hc)];exact h2 _ _ hp2
     ·rw[aE];unfold aZ;rw[xAm]
     ·rw[aL (aI h hcH)];exact h2 _ _ (s12 _ _ h)
   ·clear h1 h2 hp2 s12 s1 s2 hd htl htt hc hcH;rintro σ H4 ⟨p,c,rfl,hp4,hc4,s4⟩;obtain⟨wx,wf,ww,wo,hw0,hw1,hw2,hw3⟩:=hW;refine⟨_,rfl,dd,wx,wf,rfl,s4 _ _ hw0,hw1 "require" (by decide),_,rfl,dd,c,_,wk,rfl,SqL.of hc4,nF hsh,⟨wx,wf,ww,wo,s4 _ _ hw0,hw1,hw2,s4 _ _ hw3⟩,λH5 s5=>?_⟩;have s45:=s4.trans s5
    by_cases hgd:((aZ ds ms).map V.str).all (cY wk)=true
    rotate_left
    ·rw[xAt hgd];exact qe hgd H5 s45
    rw[xAu hgd];have q:=q hgd;have hx5:=s45 _ _ hx;refine⟨_,rfl,_,rfl,p,d,_,ds,rfl,SqL.of (s5 _ _ hp4),hD.same s45,by rw[yV]; omega,by omega,aLy,hap,λl kvs g H6 s6 hl hg L=>?_⟩;have hx6:=s6 _ _ hx5;have lx:l≠x:=λz=>by rw[z,hx5] at hl; cases hl
    have gx:∀ z∈cC b es ds,g z≠x:=λz hz z'=>by have:=hg z hz; rw[z',hx5] at this; cases this
    refine⟨_,rfl,x,CM,dx,[],rfl,hx6,MC.cl,MC.nl,by decide,?_⟩
    have hkl:kvs.length<=60:=by
     have:=congrArg List.length L.keys
     rw[xAa,xAa] at this;rw[this]; exact h60
    have L7:eX (upd H6 x (.ins CM dx (gO "leads" (.ref l) []))) l (cC b es ds) ds kvs g:=⟨by rw[aL lx]; exact L.dk,L.keys,L.val,λz hz=>by rw[aL (gx z hz)]; exact L.dd z hz,L.inj,L.ne⟩;have hx7:(upd H6 x (.ins CM dx (gO "leads" (.ref l) []))) x=some (.ins CM dx [("leads",.ref l)]):=aE;have s7:SameBut x H (upd H6 x (.ins CM dx (gO "leads" (.ref l) []))):=λa o n h=>by rw[aL n]; exact s6 _ _ (s45 _ _ h)
    have hc7:(upd H6 x (.ins CM dx (gO "leads" (.ref l) []))) c=some (.lst ((aZ ds ms).map V.str)):=by
     rw[aL λz=>by rw[z,s4 _ _ hx] at hc4; cases hc4];exact s6 _ _ (s5 _ _ hc4)
    generalize upd H6 x (.ins CM dx (gO "leads" (.ref l) []))=H7 at L7 hx7 s7 hc7 ⊢;have he7:=s7 _ _ (hxe hE λ_ z=>by cases z) hE;refine⟨_,rfl,x,CM,dx,_,.ref l,rfl,hx7,MC.cl,MC.nl,by rfl,l,kvs,rfl,L7.dk,_,_,rfl,rfl,_,rfl,eI (λz=>xAz (xAg z) (by omega)) λ_=>?_⟩;refine⟨_,rfl,_,rfl,x,CM,dx,_,rfl,hx7,MC.cl,MC.nd,by show 1<1000; decide,?_⟩;refine⟨_,rfl,_,rfl,x,CM,dx,_,rfl,aE,MC.cl,MC.nf,by show 2<1000; decide,?_⟩;have hL8:∀ (f2 f3:List (Str×V)),eX (upd (upd H7 x (.ins CM dx f2)) x (.ins CM dx f3)) l (cC b es ds) ds kvs g:=λf2 f3=>⟨by rw[aL lx,aL lx]; exact L7.dk,L7.keys,L7.val,λz hz=>by rw[aL (gx z hz),aL (gx z hz)]; exact L7.dd z hz,L7.inj,L7.ne⟩;have h8:∀ (f2 f3:List (Str×V)),SameBut x H7 (upd (upd H7 x (.ins CM dx f2)) x (.ins CM dx f3)):=λf2 f3 a o n h=>by rw[aL n,aL n]; exact h
    have cx:c≠x:=λz=>by rw[z,hx7] at hc7; cases hc7
    have ex:e≠x:=hxe hE λ_ z=>by cases z
    refine⟨_,rfl,e,es,rfl,SqL.of (h8 _ _ _ _ ex he7),by omega,λde H9 s9 hde hde9=>?_⟩;have hx9:=s9 x _ aE;have dex:de≠x:=λz=>by rw[z,aE] at hde; cases hde
    refine⟨_,rfl,x,CM,dx,_,rfl,hx9,MC.cl,MC.ne,by show 3<1000; decide,?_⟩;have s79:∀ f4:List (Str×V),SameBut x H7 (upd H9 x (.ins CM dx f4)):=λf4 a o n h=>by rw[aL n]; exact s9 _ _ (h8 _ _ _ _ n h)
    refine⟨_,rfl,c,_,rfl,SqL.of (s79 _ _ _ cx hc7),by unfold aZ; rw[xAr,xAa]; omega,λdk H10 s10 hdk hdk10=>?_⟩;have hx10:=s10 x _ aE;have dkx:dk≠x:=λz=>by rw[z,aE] at hdk; cases hdk
    refine⟨_,rfl,x,CM,dx,_,rfl,hx10,MC.cl,MC.nk,by show 4<1000; decide,?_⟩;have sF:∀ f5:List (Str×V),SameBut x H7 (upd H10 x (.ins CM dx f5)):=λf5 a o n h=>by rw[aL n]; exact s10 _ _ (s79 _ _ _ n h)
    refine q l de dk kvs g _ (λa o n h=>sF _ a o n (s7 a o n h)) ⟨by rw[aE]; rfl,⟨sF _ _ _ lx L7.dk,L7.keys,L7.val,λz hz=>sF _ _ _ (gx z hz) (L7.dd z hz),L7.inj,L7.ne⟩,?_,?_⟩
    ·rw[aL dex];exact s10 _ _ (by rw[aL dex]; exact hde9)
    ·rw[aL dkx];exact hdk10
abbrev tabs:List (List Str):=[["a","b","c","d","e"],["r0","r1","r2","r3","r4"],["go","stop","x","room1","zz"],["a","ab","b","ba","aba"],["a","ab","b","ba","aba"]]
def gZ (c:Int)(k:Nat):Str:=(tabs.getD (c%5).toNat []).getD ((c/5+k)%5).toNat ""
def bY (c:Int)(n:Nat):List Str:=(List.range n).map (gZ c)
theorem eQ (c:Int)(n:Nat):(bY c n).length=n:=by unfold bY; rw[xAa,xBu]
theorem aPd:∀ i,i<5->(tabs.getD i []).length=5/\(tabs.getD i []).all aW=true/\(tabs.getD i []).Nodup:=by decide +kernel
inductive vO (vs:List V)(H:Hp)(Q:VK)(E:XK):Prop
 | mk (c:Int)(n:Nat)(h0_:vs=[.int c,.int n])(h1_:n<=1000)(h2_:∀ (l:Addr) H',aP H H'->H l=none->H' l=some (.lst ((bY c n).map V.str))->Q (.ref l) H')
abbrev NRB:List Str:=["_law_cell","_law_many","_law_some"]
theorem aQt:aR NRB ["_law_cell","_law_many"] (aB oY):=xfs
theorem aCb {f:Addr}{fd:FuncData}(F:Fun K "_law_rooms_by" "_law_rooms_by" oY f fd)(T:Txt K mg):aQ P w K mg base CX0 1 f fd ["_law_cell","_law_many"] vO:=by
 refine F.ok aQt (λvs H Q E h=>?_) (λcdv A outer s H vs Q E hr h=>?_)
 ·obtain⟨c,n,rfl,_⟩:=h;rfl
 ·obtain⟨c,n,rfl,hn,q⟩:=h
  refine⟨_,aJ (bJ (i:=2) aQt.nd rfl (xEt rfl) (cA (pac (cA (pac aO (pac aO (pac aO (pac aO (pac aO aF)))))) (pac (cA (pac aO (pac aO (pac aO (pac aO (pac aO aF)))))) aF))))
   (aJ (bJ (i:=2) aQt.nd rfl (xEt rfl) (bV tX (bV tX (pv 2) (cA (pac (cA (pac aO (pac aO (pac aO (pac aO (pac aO aF)))))) aF)))
     (bV aRi (cA (pac (cA (pac aO (pac aO (pac aO (pac aO (pac aO aF)))))) aF)) aN)))
   (aM (aU (eN (N':=["_law_k","_law_some","_law_cell"]) (nown:=1) (js:=[2,0]) rfl
     xbs (cJ (aB oY) NRB rfl rfl (by decide +kernel))
     ⟨λ_ _ _ _=>aS (i:=0) (show List.Nodup (["_law_k","_law_some","_law_cell"]:List Str) by decide +kernel) rfl (xAy rfl) (.inr rfl),λ_ _ _ _=>eV,
      λ_ _ _ _=>cG (show IxR _ (sC K) from dG) (cG (show IxR _ (sC K) from dG) (pv 1) (bV dQ (pv 2) aN) (λ_ _=>rfl)) (bV dQ (bV eK (bV gJ (pv 2) aN) (pv 0)) aN) (λ_ _=>rfl)⟩
     (gW rfl T.range (pac (pv 1) aF)))))),?_⟩
  refine⟨by show 5<=sizeLine; decide,λp1 h1=>⟨by show 5<=sizeLine; decide,λp2 h2=>⟨by show 2<=sizeLine; decide,λp3 h3=>⟨_,rfl,by show 5<=sizeLine; decide,λp4 h4=>⟨by show 1<=sizeLine; decide,λp5 h5=>⟨p3,p5,_,_,rfl,rfl,smu h5 _ _ (smu h4 _ _ aE),aE,by show 3<=sizeLine; decide,λp6 h6=>⟨by show 5<=sizeLine; decide,λp7 h7=>⟨by show 1<=sizeLine; decide,λp8 h8=>⟨p8,2,_,rfl,rfl,aE,by decide,by decide,by show 1*2<=sizeLine; decide,λp9 h9=>⟨p6,p9,_,_,rfl,rfl,smu h9 _ _ (smu h8 _ _ (smu h7 _ _ aE)),aE,by show 3+2<=sizeLine; decide,λp10 h10=>?_⟩⟩⟩⟩⟩⟩⟩⟩⟩⟩;generalize hH2:upd (upd (upd (upd (upd (upd (upd (upd (upd (upd H p1 _) p2 _) p3 _) p4 _) p5 _) p6 _) p7 _) p8 _) p9 _) p10 _=H2;have s2:aP H H2:=by rw[<- hH2]; exact (smu h1).trans ((smu h2).trans ((smu h3).trans ((smu h4).trans ((smu h5).trans ((smu h6).trans ((smu h7).trans ((smu h8).trans ((smu h9).trans (smu h10)))))))))
  have e10:H2 p10=some (.lst ([p1,p2,p4,p7,p7].map V.ref)):=by rw[<- hH2,aE]; rfl
  have ee:∀ i,i<5->H2 ([p1,p2,p4,p7,p7].getD i 0)=some (.lst ((tabs.getD i []).map V.str)):=by
   rw[<- hH2];intro i hi
   match i,hi with
   | 0,_=>exact smu h10 _ _ (smu h9 _ _ (smu h8 _ _ (smu h7 _ _ (smu h6 _ _ (smu h5 _ _ (smu h4 _ _ (smu h3 _ _ (smu h2 _ _ aE))))))))
   | 1,_=>exact smu h10 _ _ (smu h9 _ _ (smu h8 _ _ (smu h7 _ _ (smu h6 _ _ (smu h5 _ _ (smu h4 _ _ (smu h3 _ _ aE)))))))
   | 2,_=>exact smu h10 _ _ (smu h9 _ _ (smu h8 _ _ (smu h7 _ _ (smu h6 _ _ (smu h5 _ _ aE)))))
   | 3,_=>exact smu h10 _ _ (smu h9 _ _ (smu h8 _ _ aE))
   | 4,_=>exact smu h10 _ _ (smu h9 _ _ (smu h8 _ _ aE))
  clear hH2 h1 h2 h3 h4 h5 h6 h7 h8 h9 h10;refine⟨_,rfl,n,rfl,by omega,by omega,λD hD=>iH (n:=n) (λi σ' H'=>∃ v,σ'=[v,some (.ref p10),some (.int c)]/\H' D=some (.lst ((bY c i).map V.str))/\aP H2 H') ?_ ?_ ?_⟩
  ·exact⟨none,rfl,aE,smu hD⟩
  ·rintro i σ' H' hi ⟨v,rfl,hl',sm⟩;have g5:=cX c (m:=5) (by decide);have g5':=cX (c/5+(0+(i:Int))) (m:=5) (by decide);have ti:=aPd (c%5).toNat (by omega);have el:=ee (c%5).toNat (by omega);refine⟨_,rfl,_,rfl,_,_,rfl,rfl,(by show (0:Int)<5; decide),p10,_,_,V.ref ([p1,p2,p4,p7,p7].getD (c%5).toNat 0),rfl,rfl,SqL.of (sm _ _ e10),gI V.ref [p1,p2,p4,p7,p7] 0 g5.1 g5.2,?_⟩;refine⟨_,rfl,_,_,rfl,rfl,⟨by decide,by decide⟩,_,rfl,_,_,rfl,rfl,_,_,rfl,rfl,(by show (0:Int)<5; decide),_,_,_,V.str (gZ c i),rfl,rfl,SqL.of (sm _ _ el),?_,_,hl',?_,_,rfl,?_,?_⟩
   ·have h:=gI V.str (tabs.getD (c%5).toNat []) "" g5'.1 (by rw[ti.1]; exact g5'.2);rw[h,xEw];rfl
   ·exact bO (by rw[xAa,eQ]; omega)
   ·rw[aE];unfold bY;rw[xCu,xAm,xAm];rfl
   ·intro b o e;rw[aL (aI e hD)];exact sm b o e
  ·rintro σ' H' ⟨v,rfl,hl',sm⟩;exact q D H' (s2.trans sm) (s2.free hD) hl'
abbrev NMB:List Str:=["_law_cell","_law_names","_law_many","_law_rooms","_law_known","_law_doors","_law_i","_law_room","_law_k","_law_deed","_law_draw","_law_ends","_law_more"]
theorem lN:aR NMB ["_law_cell","_law_names","_law_many"] (aB iD):=xfs
theorem iG (fs:List Str):(fs.map V.str).all pR=true:=by
 rw[xHl,xBj];intro z _;rfl
theorem iT (z:Str)(fs:List Str):inV (.str z) (fs.map V.str)=decide (z∈fs):=by
 have e:∀ y:Str,eqV (.str y) (.str z)=(y==z):=λ_=>rfl;unfold inV;rw[xJc,xDc,xDt,xDx];constructor
 ·rintro⟨y,hy,h⟩;have h':(y==z)=true:=h;rw[<- eq_of_beq h']; exact hy
 ·exact λh=>⟨z,h,(e z).trans (beq_self_eq_true z)⟩
def pK (c:Int)(k:Nat):Bool:=decide (RW.mixed c (300+(k:Int))%4>0)
def pE (c:Int)(k:Nat):Bool:=decide (RW.mixed c (400+(k:Int))%2=0)
def pM (c:Int)(k:Nat):Bool:=decide (RW.mixed c (500+(k:Int))%8=1)
def drw (c:Int)(i k:Nat):Int:=RW.mixed c (20*(i:Int)+(k:Int))
def dr (c:Int)(kn rs nm:List Str)(n i k:Nat):Option Dr:=match rs[i]?,nm[k]? with
 | some r,some d=>if (decide (d∈kn)&&decide (drw c i k%3>0))=true then some (r,d,rs.getD (drw c i k/3%n).toNat "") else none
 | _,_=>none
def xB (c:Int)(kn rs nm:List Str)(n i j:Nat):List Dr:=(List.range j).filterMap (dr c kn rs nm n i)
def oQ (c:Int)(kn rs nm:List Str)(n i:Nat):List Dr:=(List.range i).flatMap λa=>xB c kn rs nm n a nm.length
def dC (c:Int)(nm:List Str):List Str:=tT (pK c) nm nm.length
def dU (c:Int)(nm:List Str)(n:Nat):List Dr:=let d:=oQ c (dC c nm) (bY c n) nm n n; if c/15%2=1 then d.reverse else d
def jI (c:Int)(n:Nat):List Str:=tT (pE c) (bY c n) n
def oM (c:Int)(nm:List Str):List Str:=tT (pM c) nm nm.length
theorem aFp {c:Int}{kn rs nm:List Str}{n i k:Nat}{r d:Str}(hr:rs[i]?=some r)(hd:nm[k]?=some d):xB c kn rs nm n i (k+1)=xB c kn rs nm n i k++(if (decide (d∈kn)&&decide (drw c i k%3>0))=true then [(r,d,rs.getD (drw c i k/3%n).toNat "")] else []):=by
 unfold xB;rw[xCu,xDf]
 have e:dr c kn rs nm n i k=if (decide (d∈kn)&&decide (drw c i k%3>0))=true then some (r,d,rs.getD (drw c i k/3%n).toNat "") else none:=by
  unfold dr;rw[hr,hd]
 by_cases q:(decide (d∈kn)&&decide (drw c i k%3>0))=true
 ·rw[xAu q] at e ⊢;rw[xIb e];rfl
 ·rw[xAt q] at e ⊢;rw[xIc e];rfl
theorem wL (c:Int)(kn rs nm:List Str)(n i:Nat):oQ c kn rs nm n (i+1)=oQ c kn rs nm n i++xB c kn rs nm n i nm.length:=by
 unfold oQ;rw[xCu,xGu]
 simp
theorem yU (c:Int)(kn rs nm:List Str)(n i j:Nat):(xB c kn rs nm n i j).length<=j:=by
 refine xAn (xDo ..) ?_;rw[xBu];exact xAl _
theorem uP (c:Int)(kn rs nm:List Str)(n:Nat):∀ i,(oQ c kn rs nm n i).length<=nm.length*i
 | 0=>xAl _
 | i+1=>by
  rw[wL,xAr,Nat.mul_succ];exact Nat.add_le_add (uP c kn rs nm n i) (yU ..)
inductive rO (K:xAb)(vs:List V)(H:Hp)(Q:VK)(E:XK):Prop
 | mk (c:Int)(a:Addr)(n:Nat)(ss:List Str)(h0_:vs=[.int c,.ref a,.int n])(h1_:SqL K H a (ss.map V.str))(h2_:1<=n)(h3_:n<=5)(h4_:ss.length<=12)
  (h5_:∀ (t e d m:Addr) H',aP H H'->H e=none->H d=none->H m=none->H' t=some (.tup [.str (gZ c 0),.ref e,.ref d,.ref m])->H' e=some (.lst ((jI c n).map V.str))->cQ H' d (dU c ss n)->H' m=some (.lst ((oM c ss).map V.str))->Q (.ref t) H')
inductive J1 (H:Hp)(c:Int)(a:Addr)(n:Nat)(ss:List Str)(σ:St)(H':Hp):Prop
 | mk (l kn:Addr)(h0_:σ=[some (.int c),some (.ref a),some (.int n),some (.ref l),some (.ref kn),none,none,none,none,none,none,none,none])(h1_:H' l=some (.lst ((bY c n).map V.str)))(h2_:H' kn=some (.lst ((dC c ss).map V.str)))(h3_:aP H H')
inductive J2 (H:Hp)(c:Int)(a:Addr)(n:Nat)(ss:List Str)(i:Nat)(ds:List Dr)(x11 x12:Option V)(σ:St)(H':Hp):Prop
 | mk (l kn d:Addr)(x6 x7 x8 x9 x10:Option V)(h0_:σ=[some (.int c),some (.ref a),some (.int n),some (.ref l),some (.ref kn),some (.ref d),x6,x7,x8,x9,x10,x11,x12])(h1_:H' l=some (.lst ((bY c n).map V.str)))(h2_:H' kn=some (.lst ((dC c ss).map V.str)))(h3_:cQ H' d ds)(h4_:H d=none)(h5_:l≠d)(h6_:kn≠d)(h7_:aP H H')(h8_:∀ p,(x11=some (.ref p)\/x12=some (.ref p))->p≠d/\H p=none)
abbrev nd3:List Str:=["_law_k","_law_name","_law_cell"]
abbrev nd4:List Str:=["_law_i","_law_room","_law_cell"]
theorem xH {f fM fR:Addr}{fd fdM fdR:FuncData}(F:Fun K "_law_machine_by" "_law_machine_by" iD f fd)(T:Txt K mg)
  (GM:aQ P w K mg base CX0 1 fM fdM ["_law_cell","_law_k"] oW)(kM:keepIn K (.ref fM)=true)(bM:aX K fdM ["_law_cell","_law_k"] [])(mM:mg "_law_mixed" = some (.ref fM))
  (GR:aQ P w K mg base CX0 1 fR fdR ["_law_cell","_law_many"] vO)(kR:keepIn K (.ref fR)=true)(bR:aX K fdR ["_law_cell","_law_many"] [])(mR:mg "_law_rooms_by" = some (.ref fR)) :
  aQ P w K mg base CX0 2 f fd ["_law_cell","_law_names","_law_many"] (rO K):=by
 refine F.ok lN (λvs H Q E h=>?_) (λcdv A outer s H vs Q E hr h=>?_)
 ·obtain⟨c,a,n,ss,rfl,_⟩:=h;rfl
 ·obtain⟨c,a,n,ss,rfl,hA,hn1,hn5,hs12,q⟩:=h
  refine⟨_,aJ (bJ (i:=3) lN.nd rfl (xAy rfl) (bX GR hr rfl mR kR bR .nil bZ (pac (pv 0) (pac (pv 2) aF))))
   (jQ (J1 H c a n ss) (gE (i:=4) (N':=nd3) (nown:=2) (js:=[0]) rfl lN.nd rfl rfl rfl
     xbs (cJ (aB iD) NMB rfl rfl (by decide +kernel))
     ⟨λ_ _ _ _=>show PG _ _ (aAg K 2 (iN (hU 0) (iN (hU 1) aAh))) from eO rfl (aY (aS (i:=0) (show List.Nodup nd3 by decide +kernel) rfl (xAy rfl) (.inr rfl)) (aY (aS (i:=1) (show List.Nodup nd3 by decide +kernel) rfl (xAy rfl) (.inr rfl)) dO)),
      λ_ _ _ _=>iP (aV pJ (bV dQ (bX GM hr rfl mM kM bM .nil bZ (pac (pv 2) (pac (bV eK aN (pv 0)) aF))) aN) aN (bC _)),
      λ_ _ _ _=>pv 1⟩
     (kY rfl T.enum (pac (pv 1) aF)))
   (aJ (bJ (i:=5) lN.nd rfl (xAy rfl) (cA aF))
   (jQ (J2 H c a n ss n (oQ c (dC c ss) (bY c n) ss n n) none none) (dZ PassesOwn.never rfl (kY rfl T.enum (pac (pv 3) aF)) (eO rfl (aY (aS (i:=6) lN.nd rfl (xAy rfl)) (aY (aS (i:=7) lN.nd rfl (xAy rfl)) dO)))
    (aM (dZ PassesOwn.never rfl (kY rfl T.enum (pac (pv 1) aF)) (eO rfl (aY (aS (i:=8) lN.nd rfl (xAy rfl)) (aY (aS (i:=9) lN.nd rfl (xAy rfl)) dO)))
     (aJ (bJ (i:=10) lN.nd rfl (xAy rfl) (bX GM hr rfl mM kM bM .nil bZ (pac (pv 0) (pac (bV eK (bV oJ aN (pv 6)) (pv 8)) aF))))
     (aM (cK (qM (aV (show OpR _ _ (rIn K false) from kE) (pv 9) (pv 4) (by with_unfolding_all rfl)) (pH (aV pJ (bV dQ (pv 10) aN) aN (bC _)))).pt
      (aM (dA (lW xBq xDn xDm iY (pv 5) (pac (dL (pac (pv 7) (pac (pv 9) (pac (cG dG (pv 3) (bV dQ (bV gJ (pv 10) aN) (pv 2)) (λ_ _=>rfl)) aF)))) aF)))) bS))))))
   (jQ (λσ H'=>∃ e,J2 H c a n ss n (oQ c (dC c ss) (bY c n) ss n n) (some (.ref e)) none σ H'/\H' e=some (.lst ((jI c n).map V.str))) (gE (i:=11) (N':=nd4) (nown:=2) (js:=[0]) rfl lN.nd rfl rfl rfl
     xbs (cJ (aB iD) NMB rfl rfl (by decide +kernel))
     ⟨λ_ _ _ _=>show PG _ _ (aAg K 2 (iN (hU 0) (iN (hU 1) aAh))) from eO rfl (aY (aS (i:=0) (show List.Nodup nd4 by decide +kernel) rfl (xAy rfl) (.inr rfl)) (aY (aS (i:=1) (show List.Nodup nd4 by decide +kernel) rfl (xAy rfl) (.inr rfl)) dO)),
      λ_ _ _ _=>iP (aV eC (bV dQ (bX GM hr rfl mM kM bM .nil bZ (pac (pv 2) (pac (bV eK aN (pv 0)) aF))) aN) aN (bC _)),
      λ_ _ _ _=>pv 1⟩
     (kY rfl T.enum (pac (pv 3) aF)))
   (jQ (λσ H'=>∃ e m,J2 H c a n ss n (oQ c (dC c ss) (bY c n) ss n n) (some (.ref e)) (some (.ref m)) σ H'/\H' e=some (.lst ((jI c n).map V.str))/\H' m=some (.lst ((oM c ss).map V.str))) (gE (i:=12) (N':=nd3) (nown:=2) (js:=[0]) rfl lN.nd rfl rfl rfl
     xbs (cJ (aB iD) NMB rfl rfl (by decide +kernel))
     ⟨λ_ _ _ _=>show PG _ _ (aAg K 2 (iN (hU 0) (iN (hU 1) aAh))) from eO rfl (aY (aS (i:=0) (show List.Nodup nd3 by decide +kernel) rfl (xAy rfl) (.inr rfl)) (aY (aS (i:=1) (show List.Nodup nd3 by decide +kernel) rfl (xAy rfl) (.inr rfl)) dO)),
      λ_ _ _ _=>iP (aV eC (bV dQ (bX GM hr rfl mM kM bM .nil bZ (pac (pv 2) (pac (bV eK aN (pv 0)) aF))) aN) aN (bC _)),
      λ_ _ _ _=>pv 1⟩
     (kY rfl T.enum (pac (pv 1) aF)))
   (aJ (cK (aV eC (bV dQ (bV gJ (pv 0) aN) aN) aN (bC _)) (aM (dA (aRh xBq PySem.F.slot_list_reverse PySem.F.type_list_reverse aCq (pv 5)))) bS)
   (aM (aU (dL (pac (cG dG (pv 3) aN (λ_ _=>rfl)) (pac (pv 11) (pac (pv 5) (pac (pv 12) aF))))))))))))),?_⟩
  refine⟨_,rfl,_,rfl,c,n,rfl,by omega,λl H1 s1 hl hl1=>⟨?_,?_⟩⟩
  ·refine⟨_,rfl,a,rfl,⟨_,s1.seq hA⟩,λD hD=>pX (xs:=ss.map V.str) (λi σ' H'=>∃ v0 v1,σ'=[v0,v1,some (.int c)]/\H' D=some (.lst ((tT (pK c) ss i).map V.str))/\aP H1 H') ?_ ?_ ?_ ?_⟩
   ·exact⟨none,none,rfl,aE,smu hD⟩
   ·rintro i σ' H' _ ⟨v0,v1,rfl,h1,h2⟩;exact h2.seq (s1.seq hA)
   ·rintro i x σ' H' t hx ⟨v0,v1,rfl,h1,h2⟩ ht;rw[xAf] at hx;cases hz:(ss)[i]? with
    | none=>rw[hz] at hx; cases hx
    | some z=>
     rw[hz] at hx;cases hx;have hi:i<(ss).length:=(xAd.mp hz).1;have nD:D≠t:=λe=>by rw[e,ht] at h1; cases h1
     have sT:aP H1 (upd H' t (.tup [.int i,.str z])):=h2.trans (smu ht);have hlu:=lS (pK c) (ss) i;refine⟨t,_,rfl,SqT.of aE,rfl,_,_,rfl,_,_,rfl,rfl,_,rfl,_,rfl,_,_,rfl,rfl,c,_,rfl,_,_,rfl,rfl,(by show (0:Int)<4; decide),_,_,rfl,rfl,_,rfl,eI (λh4=>?_) (λh4=>?_)⟩
     ·have e4:pK c i=true:=h4;refine⟨_,rfl,_,by rw[aL nD]; exact h1,bO (by rw[xAa]; omega),some (.int i),some (.str z),rfl,?_,?_⟩
      ·rw[aE,iW hz,xAu e4,xAm];rfl
      ·intro b o e;rw[aL (aI e hD)];exact sT b o e
     ·have e4:¬ pK c i=true:=h4;refine⟨some (.int i),some (.str z),rfl,?_,sT⟩;rw[aL nD,iW hz,xAt e4,xBo];exact h1
   ·rintro σ' H' ⟨v0,v1,rfl,h1,h2⟩;rw[xAa] at h1;exact⟨l,D,rfl,h2 _ _ hl1,h1,s1.trans h2⟩
  rintro σ H2 ⟨l,kn,rfl,hl2,hk2,s2⟩;refine⟨by show 0<=sizeLine; decide,λd hd=>⟨?_,?_⟩⟩
  ·have hdH:H d=none:=s2.free hd;have ld:l≠d:=aI hl2 hd;have kd:kn≠d:=aI hk2 hd;have sd:aP H2 (upd H2 d (.lst [])):=smu hd;have D0:cQ (upd H2 d (.lst [])) d []:=⟨⟨[],aE,rfl,λi t x h=>by cases h⟩⟩;refine⟨_,rfl,l,rfl,⟨_,SqL.of (sd _ _ hl2)⟩,?_⟩;have hl0:=sd _ _ hl2;have hk0:=sd _ _ hk2;have hA2:=sd.seq (s2.seq hA)
   have aA:∀ {H':Hp},(∀ b o,b≠d->H2 b=some o->H' b=some o)->(∃ ys,H' d=some (.lst ys))->SqL K H' a (ss.map V.str):=λ{H'} k z=>by
    rcases s2.seq hA with (h | ⟨o,h⟩) | h
    ·exact .inl (.inl (k _ _ (aI h hd) h))
    ·exact .inl (.inr ⟨o,k _ _ (aI h hd) h⟩)
    ·exact .inr h
   refine uG (xs:=(bY c n).map V.str) (λi σ H'=>∃ x6 x7 x8 x9 x10,σ=[some (.int c),some (.ref a),some (.int n),some (.ref l),some (.ref kn),some (.ref d),x6,x7,x8,x9,x10,none,none]/\cQ H' d (oQ c (dC c ss) (bY c n) ss n i)/\∀ b o,b≠d->H2 b=some o->H' b=some o) ?_ ?_ ?_ ?_
   ·exact⟨none,none,none,none,none,rfl,D0,λb o _ h=>sd _ _ h⟩
   ·rintro i σ H' _ ⟨x6,x7,x8,x9,x10,rfl,h1,h2⟩;exact SqL.of (h2 _ _ ld hl2)
   ·rintro i x σ H' t hx ⟨x6,x7,x8,x9,x10,rfl,h1,h2⟩ ht;rw[xAf] at hx;cases hz:(bY c n)[i]? with
    | none=>rw[hz] at hx; cases hx
    | some r=>
     rw[hz] at hx;cases hx;have hi:i<n:=by have:=(xAd.mp hz).1; rw[eQ] at this; exact this
     have sT:=smu (o:=.tup [.int i,.str r]) ht;have h2':∀ b o,b≠d->H2 b=some o->upd H' t (.tup [.int i,.str r]) b=some o:=λb o n h=>sT _ _ (h2 b o n h);have D1:=h1.same sT;refine⟨t,_,rfl,SqT.of aE,rfl,_,_,rfl,_,_,rfl,rfl,?_⟩;generalize upd H' t (.tup [.int i,.str r])=H3 at h2' D1 ⊢;refine⟨_,rfl,a,rfl,⟨_,aA h2' (let ⟨_,z,_⟩:=D1.ex; ⟨_,z⟩)⟩,?_⟩;refine uG (xs:=ss.map V.str) (λk σ H'=>∃ x8 x9 x10,σ=[some (.int c),some (.ref a),some (.int n),some (.ref l),some (.ref kn),some (.ref d),some (.int i),some (.str r),x8,x9,x10,none,none]/\cQ H' d (oQ c (dC c ss) (bY c n) ss n i++xB c (dC c ss) (bY c n) ss n i k)/\∀ b o,b≠d->H2 b=some o->H' b=some o) ?_ ?_ ?_ ?_
     ·exact⟨x8,x9,x10,rfl,by rw[show xB c (dC c ss) (bY c n) ss n i 0=[] from rfl,xBo]; exact D1,h2'⟩
     ·rintro k σ H' _ ⟨x8,x9,x10,rfl,h3,h4⟩;exact aA h4 (let ⟨_,z,_⟩:=h3.ex; ⟨_,z⟩)
     ·rintro k x σ H' t' hx ⟨x8,x9,x10,rfl,h3,h4⟩ ht';rw[xAf] at hx;cases hy:ss[k]? with
      | none=>rw[hy] at hx; cases hx
      | some y=>
       rw[hy] at hx;cases hx;have hk:k<ss.length:=(xAd.mp hy).1;have es:=aFp (c:=c) (kn:=dC c ss) (n:=n) hz hy;have sT':=smu (o:=.tup [.int k,.str y]) ht';have h4':∀ b o,b≠d->H2 b=some o->upd H' t' (.tup [.int k,.str y]) b=some o:=λb o n h=>sT' _ _ (h4 b o n h);have D3:=h3.same sT';refine⟨t',_,rfl,SqT.of aE,rfl,_,_,rfl,_,_,rfl,rfl,?_⟩;generalize upd H' t' (.tup [.int k,.str y])=H4 at h4' D3 ⊢;refine⟨_,rfl,_,rfl,_,_,rfl,rfl,.inl ⟨by decide,by decide⟩,_,rfl,_,_,rfl,rfl,c,_,rfl,?_⟩;refine⟨_,rfl,_,rfl,kn,_,rfl,.inl (SqL.of (h4' _ _ kd hk2)),rfl,iG _,_,rfl,?_⟩;have ei:inV (.str y) ((dC c ss).map V.str)=decide (y∈dC c ss):=iT _ _
       have stay:(decide (y∈dC c ss)&&decide (drw c i k%3>0))=false->cQ H4 d (oQ c (dC c ss) (bY c n) ss n i++xB c (dC c ss) (bY c n) ss n i (k+1)):=λz=>by
        rw[es,xAt (by rw[z]; exact xAv),xBo];exact D3
       refine eI (λg1=>?_) (λg1=>?_)
       ·have g1':decide (y∈dC c ss)=true:=ei.symm.trans g1;refine⟨_,rfl,_,_,rfl,rfl,(by show (0:Int)<3; decide),_,_,rfl,rfl,_,rfl,eI (λg2=>?_) (λg2=>?_)⟩
        ·have g2':decide (drw c i k%3>0)=true:=g2;have gi:=cX (drw c i k/3) (m:=(n:Int)) (by omega);have hat:atI ((bY c n).map V.str) (drw c i k/3%n)=some (.str ((bY c n).getD (drw c i k/3%n).toNat "")):=gI V.str (bY c n) "" gi.1 (by rw[eQ]; exact gi.2);obtain⟨_,hdd,_⟩:=D3.ex;refine⟨_,rfl,.inl ⟨rfl,_,SqL.of hdd⟩,_,rfl,_,rfl,_,rfl,_,rfl,_,_,rfl,rfl,⟨by decide,by decide⟩,_,rfl,_,_,rfl,rfl,(by show (0:Int)<n; omega),l,_,_,_,rfl,rfl,SqL.of (h4' _ _ ld hl2),hat,by show 3<=sizeLine; decide,λt2 ht2=>?_⟩;obtain⟨xs,hx1,hx2,hx3⟩:=D3.push ht2 (r,y,(bY c n).getD (drw c i k/3%n).toNat "");have td:t2≠d:=λz=>by rw[z,hx1] at ht2; cases ht2
         refine⟨d,xs,_,rfl,rfl,by rw[aL (Ne.symm td)]; exact hx1,?_,_,_,_,rfl,?_,λb o nb h=>?_⟩
         ·have a1:=uP c (dC c ss) (bY c n) ss n i;have a2:=yU c (dC c ss) (bY c n) ss n i k;rw[hx2,xAr];have a3:ss.length*i<=12*5:=Nat.mul_le_mul hs12 (by omega);exact bO (by omega)
         ·rw[es,xAu (by rw[g1',g2']; rfl),<- xHh];exact hx3
         ·rw[aL nb];exact smu ht2 _ _ (h4' b o nb h)
        ·exact⟨_,_,_,rfl,stay (by rw[g1',xFc]; exact xCb.mpr g2),h4'⟩
       ·have g1':¬ inV (.str y) ((dC c ss).map V.str)=true:=g1;exact⟨_,_,_,rfl,stay (by rw[<- ei,xCb.mpr g1',xEr]),h4'⟩
     ·rintro σ H' ⟨x8,x9,x10,rfl,h3,h4⟩;rw[xAa,<- wL] at h3;exact⟨_,_,_,_,_,rfl,h3,h4⟩
   ·rintro σ H' ⟨x6,x7,x8,x9,x10,rfl,h1,h2⟩;rw[xAa,eQ] at h1;exact⟨l,kn,d,x6,x7,x8,x9,x10,rfl,h2 _ _ ld hl2,h2 _ _ kd hk2,h1,hdH,ld,kd,λb o h=>h2 _ _ (aI h hdH) (s2 _ _ h),λp h=>by rcases h with h | h <;> cases h⟩
  clear hl hl1 s1 hl2 hk2 s2 hd;rintro σ H3 ⟨l,kn,d,x6,x7,x8,x9,x10,rfl,hl3,hk3,hd3,hd0,n1,n2,s3,nn⟩;refine⟨?_,?_⟩
  ·refine⟨_,rfl,l,rfl,⟨_,SqL.of hl3⟩,λD hD=>pX (xs:=(bY c n).map V.str) (λi σ' H'=>∃ v0 v1,σ'=[v0,v1,some (.int c)]/\H' D=some (.lst ((tT (pE c) (bY c n) i).map V.str))/\aP H3 H') ?_ ?_ ?_ ?_⟩
   ·exact⟨none,none,rfl,aE,smu hD⟩
   ·rintro i σ' H' _ ⟨v0,v1,rfl,h1,h2⟩;exact h2.seq (SqL.of hl3)
   ·rintro i x σ' H' t hx ⟨v0,v1,rfl,h1,h2⟩ ht;rw[xAf] at hx;cases hz:((bY c n))[i]? with
    | none=>rw[hz] at hx; cases hx
    | some z=>
     rw[hz] at hx;cases hx;have hi:i<((bY c n)).length:=(xAd.mp hz).1;have nD:D≠t:=λe=>by rw[e,ht] at h1; cases h1
     have sT:aP H3 (upd H' t (.tup [.int i,.str z])):=h2.trans (smu ht);have hlu:=lS (pE c) ((bY c n)) i;refine⟨t,_,rfl,SqT.of aE,rfl,_,_,rfl,_,_,rfl,rfl,_,rfl,_,rfl,_,_,rfl,rfl,c,_,rfl,_,_,rfl,rfl,(by show (0:Int)<2; decide),rfl,_,rfl,eI (λh4=>?_) (λh4=>?_)⟩
     ·have e4:pE c i=true:=xAk (V.int.inj (xAg h4));refine⟨_,rfl,_,by rw[aL nD]; exact h1,bO (by rw[xAa]; rw[eQ] at hi; omega),some (.int i),some (.str z),rfl,?_,?_⟩
      ·rw[aE,iW hz,xAu e4,xAm];rfl
      ·intro b o e;rw[aL (aI e hD)];exact sT b o e
     ·have e4:¬ pE c i=true:=λz=>h4 (xAk (congrArg V.int (xAg z)));refine⟨some (.int i),some (.str z),rfl,?_,sT⟩;rw[aL nD,iW hz,xAt e4,xBo];exact h1
   ·rintro σ' H' ⟨v0,v1,rfl,h1,h2⟩;rw[xAa] at h1;rw[eQ] at h1
    exact⟨D,⟨l,kn,d,x6,x7,x8,x9,x10,rfl,h2 _ _ hl3,h2 _ _ hk3,hd3.same h2,hd0,n1,n2,s3.trans h2,λp h=>by
     obtain⟨_,hdd,_⟩:=hd3.ex;rcases h with h | h
     ·cases h; exact⟨Ne.symm (aI hdd hD),s3.free hD⟩
     ·cases h⟩,h1⟩
  clear hl3 hk3 hd3 hd0 n1 n2 s3 nn;rintro σ H4 ⟨e,⟨l,kn,d,x6,x7,x8,x9,x10,rfl,hl4,hk4,hd4,hd0,n1,n2,s4,nn⟩,he4⟩;refine⟨?_,?_⟩
  ·refine⟨_,rfl,a,rfl,⟨_,s4.seq hA⟩,λD hD=>pX (xs:=ss.map V.str) (λi σ' H'=>∃ v0 v1,σ'=[v0,v1,some (.int c)]/\H' D=some (.lst ((tT (pM c) ss i).map V.str))/\aP H4 H') ?_ ?_ ?_ ?_⟩
   ·exact⟨none,none,rfl,aE,smu hD⟩
   ·rintro i σ' H' _ ⟨v0,v1,rfl,h1,h2⟩;exact h2.seq (s4.seq hA)
   ·rintro i x σ' H' t hx ⟨v0,v1,rfl,h1,h2⟩ ht;rw[xAf] at hx;cases hz:(ss)[i]? with
    | none=>rw[hz] at hx; cases hx
    | some z=>
     rw[hz] at hx;cases hx;have hi:i<(ss).length:=(xAd.mp hz).1;have nD:D≠t:=λe=>by rw[e,ht] at h1; cases h1
     have sT:aP H4 (upd H' t (.tup [.int i,.str z])):=h2.trans (smu ht);have hlu:=lS (pM c) (ss) i;refine⟨t,_,rfl,SqT.of aE,rfl,_,_,rfl,_,_,rfl,rfl,_,rfl,_,rfl,_,_,rfl,rfl,c,_,rfl,_,_,rfl,rfl,(by show (0:Int)<8; decide),rfl,_,rfl,eI (λh4=>?_) (λh4=>?_)⟩
     ·have e4:pM c i=true:=xAk (V.int.inj (xAg h4));refine⟨_,rfl,_,by rw[aL nD]; exact h1,bO (by rw[xAa]; omega),some (.int i),some (.str z),rfl,?_,?_⟩
      ·rw[aE,iW hz,xAu e4,xAm];rfl
      ·intro b o e;rw[aL (aI e hD)];exact sT b o e
     ·have e4:¬ pM c i=true:=λz=>h4 (xAk (congrArg V.int (xAg z)));refine⟨some (.int i),some (.str z),rfl,?_,sT⟩;rw[aL nD,iW hz,xAt e4,xBo];exact h1
   ·rintro σ' H' ⟨v0,v1,rfl,h1,h2⟩;rw[xAa] at h1
    exact⟨e,D,⟨l,kn,d,x6,x7,x8,x9,x10,rfl,h2 _ _ hl4,h2 _ _ hk4,hd4.same h2,hd0,n1,n2,s4.trans h2,λp h=>by
     obtain⟨_,hdd,_⟩:=hd4.ex;rcases h with h | h
     ·exact nn p (.inl h)
     ·cases h; exact⟨Ne.symm (aI hdd hD),s4.free hD⟩⟩,h2 _ _ he4,h1⟩
  clear hl4 hk4 hd4 hd0 n1 n2 s4 he4 nn;rintro σ H5 ⟨e,m,⟨l,kn,d,x6,x7,x8,x9,x10,rfl,hl5,hk5,hd5,hd0,n1,n2,s5,nn⟩,he5,hm5⟩
  have r0:atI ((bY c n).map V.str) 0=some (.str (gZ c 0)):=by
   have:=iK (xs:=(bY c n).map V.str) (j:=0) (v:=.str (gZ c 0)) (by
    rw[xAf];unfold bY;rw[xAf,xEk (by omega)];rfl)
   exact this
  refine⟨_,rfl,_,_,rfl,rfl,⟨by decide,by decide⟩,_,_,rfl,rfl,(by show (0:Int)<2; decide),rfl,_,rfl,eI (λh4=>?_) (λh4=>?_)⟩
  ·have e4:c/15%2=1:=V.int.inj (xAg h4);obtain⟨xs,hx1,hx2,hx3⟩:=hd5.rev;have sb:∀ {b:Addr}{o:HO},H5 b=some o->b≠d->upd H5 d (.lst xs.reverse) b=some o:=λh nb=>by rw[aL nb]; exact h
   refine⟨_,rfl,.inl ⟨rfl,_,SqL.of hx1⟩,d,xs,rfl,rfl,hx1,?_⟩;refine⟨_,rfl,l,_,_,_,rfl,rfl,SqL.of (sb hl5 n1),r0,_,rfl,_,rfl,_,rfl,by show 4<=sizeLine; decide,λt ht=>?_⟩;refine q t e d m _ (λb o h=>smu ht _ _ (by rw[aL (aI h hd0)]; exact s5 _ _ h)) (nn _ (.inl rfl)).2 hd0 (nn _ (.inr rfl)).2 aE (smu ht _ _ (sb he5 (nn _ (.inl rfl)).1)) ?_ (smu ht _ _ (sb hm5 (nn _ (.inr rfl)).1));unfold dU;rw[xAu e4];exact hx3.same (smu ht)
  ·have e4:¬ c/15%2=1:=λz=>h4 (xAk (congrArg V.int z));refine⟨_,rfl,l,_,_,_,rfl,rfl,SqL.of hl5,r0,_,rfl,_,rfl,_,rfl,by show 4<=sizeLine; decide,λt ht=>?_⟩;refine q t e d m _ (s5.trans (smu ht)) (nn _ (.inl rfl)).2 hd0 (nn _ (.inr rfl)).2 aE (smu ht _ _ he5) ?_ (smu ht _ _ hm5);unfold dU;rw[xAt e4];exact hd5.same (smu ht)
theorem kP {rs:List Str}{z:Str}:z∈unl rs []↔z∈rs:=by
 rw[aDs];exact⟨λh=>h.elim (λh=>nomatch h) id,.inr⟩
theorem aLn (k:List (Key×V))(l:List Str)(s:Str)(v:V)(h:k.map (·.1)=l.map Sum.inr):(gN k (Sum.inr s) v).map (·.1)=(if s∈l then l else l++[s]).map Sum.inr:=by
 unfold gN;rw[mX,h]
 have m:(k.map λkv=>if kv.1=(Sum.inr s:Key) then (kv.1,v) else kv).map (·.1)=k.map (·.1):=by
  rw[xCy];refine xGt λp _=>?_;show (if p.1=_ then (p.1,v) else p).1=p.1
  split <;> rfl
 by_cases q:s∈l
 ·rw[xAu q,xAu (by rw[xDt]; exact⟨_,xAp.mpr ⟨s,q,rfl⟩,xAk rfl⟩),m,h]
 ·rw[xAt q,xAt λz=>by
   obtain⟨x,hx,e⟩:=xDt.mp z;obtain⟨y,hy,rfl⟩:=xAp.mp hx;exact q (Sum.inr.inj (xAg e)▸hy),xAm,h,xAm]
  rfl
theorem xK:∀ (ss:List Str) (k:List (Key×V)) (l:List Str),k.map (·.1)=l.map Sum.inr->(mks ss k).map (·.1)=(unl ss l).map Sum.inr
 | [],k,l,h=>h
 | s::r,k,l,h=>xK r _ _ (aLn k l s _ h)
theorem nL {kvs:List (Key×V)}{rs:List Str}(h:kvs.map (·.1)=(mks rs []).map (·.1)):kvs.map (λkv=>L2.kV kv.1)=(unl rs []).map V.str:=by
 have e:kvs.map (λkv=>L2.kV kv.1)=(kvs.map (·.1)).map L2.kV:=by rw[xCy]; rfl
 rw[e,h,xK rs [] [] rfl,xCy];rfl
theorem qV:∀ (fs:List Str) (kvs:List (Key×V)) (z:Str),(dN (mks fs kvs) (Sum.inr z)).isSome=(decide (z∈fs)||(dN kvs (Sum.inr z)).isSome)
 | [],kvs,z=>by simp[mks]
 | s::r,kvs,z=>by
  rw[mks,qV r,lK]
  by_cases h:z=s
  ·subst h
   simp
  ·rw[xAt λe=>h (Sum.inr.inj e)];simp[h]
theorem qY {kvs:List (Key×V)}{rs:List Str}(h:kvs.map (·.1)=(mks rs []).map (·.1))(z:Str):(dN kvs (Sum.inr z)).isSome=decide (z∈rs):=by
 have:=qV rs [] z
 rw[show (dN ([]:List (Key×V)) (Sum.inr z)).isSome=false from rfl,xIm] at this
 rw[<- this,<- gY,<- gY,mX,mX,h]
theorem eG {rs N:List Str}(h:∀ z∈rs,z∈N):(unl rs []).length<=N.length:=by
 have:∀ (l m:List Str),l.Nodup->(∀ z∈l,z∈m)->l.length<=m.length:=λl m hd hs=>by
  induction l generalizing m with
  | nil=>exact xBr _
  | cons x r ih=>
   have hn:=xDb.mp hd;have h1:=ih (m.erase x) hn.2 (λz hz=>(List.mem_erase_of_ne (λ(e:z=x)=>hn.1 (e▸hz))).mpr (hs z (xBg _ hz)));have hx:=hs x (xBk ..);have h2:=xIt hx;rw[xFr hx] at h1;simp only[List.length_cons];omega
 exact this _ _ (nC _ _ .nil) λz hz=>h z (kP.mp hz)
inductive yP (CM:Addr)(vs:List V)(H:Hp)(Q:VK)(E:XK):Prop
 | mk (x dd:Addr)(b:Str)(es kn:List Str)(ds:List Dr)(h0_:vs=[.ref x])(h1_:MM CM H x dd b es kn ds)(h2_:Q (.ref dd) H)
inductive nG (CM:Addr)(f:Str->List Str->List Str->List Dr->List Str)(vs:List V)(H:Hp)(Q:VK)(E:XK):Prop
 | mk (x dd:Addr)(b:Str)(es kn:List Str)(ds:List Dr)(h0_:vs=[.ref x])(h1_:MM CM H x dd b es kn ds)(h2_:(unl (f b es kn ds) []).length<64)
  (h3_:∀ (l:Addr) (ts:List Str) H',aP H H'->H l=none->H' l=some (.lst (ts.map V.str))->xBp ts=true->ts.Perm (unl (f b es kn ds) [])->Q (.ref l) H')
abbrev rW (b:Str)(es:List Str)(ds:List Dr)(z:Str):Prop:=aW z=true/\z∈cC b es ds
inductive wR (CM cR:Addr)(vs:List V)(H:Hp)(Q:VK)(E:XK):Prop
 | mk (x dd:Addr)(b z:Str)(es kn:List Str)(ds:List Dr)(h0_:vs=[.ref x,.str z])(h1_:MM CM H x dd b es kn ds)(h2_:z.length<=1000)(h3_:rW b es ds z->∀ H',aP H H'->Q .non H')(h4_:¬ rW b es ds z->∀ H',aP H H'->E (.ref cR) none H')
inductive aIn (C CM cR cD:Addr)(vs:List V)(H:Hp)(Q:VK)(E:XK):Prop
 | mk (x dd:Addr)(b z:Str)(y:V)(es kn:List Str)(ds:List Dr)(wk:List (Key×V))(h0_:vs=[.ref x,.str z,y])(h1_:MM CM H x dd b es kn ds)(h2_:z.length<=1000)(h4_:WAt C H dd wk)(h5_:aAs y)
  (h6_:rW b es ds z->cY wk y=true->∀ (u:Str) H',y=.str u->aP H H'->Q (oV (cF ds z u)) H')(h7_:rW b es ds z->cY wk y=false->∀ H',aP H H'->E (.ref cD) none H')(h8_:¬ rW b es ds z->∀ H',aP H H'->E (.ref cR) none H')
inductive qH (CM cR:Addr)(vs:List V)(H:Hp)(Q:VK)(E:XK):Prop
 | mk (x dd:Addr)(b z:Str)(es kn:List Str)(ds:List Dr)(h0_:vs=[.ref x,.str z])(h1_:MM CM H x dd b es kn ds)(h2_:z.length<=1000)(h3_:rW b es ds z->∀ H',aP H H'->Q (.bl (decide (z∈es))) H')(h4_:¬ rW b es ds z->∀ H',aP H H'->E (.ref cR) none H')
theorem aWq:aR ["self"] ["self"] (aB aCw):=xfs
theorem aGl {f CM:Addr}{fd:FuncData}(F:Fun K "deeds" "Machine.deeds" aCw f fd)(MC:kJ K CM):aQ P w K mg base CX0 1 f fd ["self"] (yP CM):=by
 refine F.ok aWq (λvs H Q E h=>?_) (λcdv A outer s H vs Q E hr h=>?_)
 ·obtain⟨x,dd,b,es,kn,ds,rfl,_⟩:=h;rfl
 ·obtain⟨x,dd,b,es,kn,ds,rfl,⟨dx,l,e,k,kvs,g,M⟩,q⟩:=h;exact⟨_,aM (aU (cE (pv 0) rfl)),_,rfl,x,CM,dx,_,_,rfl,M.ins,MC.cl,MC.nd,by rfl,q⟩
theorem aWr:aR ["self"] ["self"] (aB aCx):=xfs
theorem aGm {f CM:Addr}{fd:FuncData}(F:Fun K "begin" "Machine.begin" aCx f fd)(MC:kJ K CM):aQ P w K mg base CX0 1 f fd ["self"] (tH CM):=by
 refine F.ok aWr (λvs H Q E h=>?_) (λcdv A outer s H vs Q E hr h=>?_)
 ·obtain⟨x,dd,b,es,kn,ds,rfl,_⟩:=h;rfl
 ·obtain⟨x,dd,b,es,kn,ds,rfl,⟨dx,l,e,k,kvs,g,M⟩,q⟩:=h;exact⟨_,aM (aU (cE (pv 0) rfl)),_,rfl,x,CM,dx,_,_,rfl,M.ins,MC.cl,MC.nf,by rfl,q⟩
abbrev aLt (b:Str)(es _kn:List Str)(ds:List Dr):List Str:=cC b es ds
abbrev aPy (_b:Str)(es _kn:List Str)(_ds:List Dr):List Str:=es
abbrev aLu (_b:Str)(_es kn:List Str)(_ds:List Dr):List Str:=kn
theorem aTn:aR ["self"] ["self"] (aB aCt):=xfs
theorem aGi {f CM:Addr}{fd:FuncData}(F:Fun K "rooms" "Machine.rooms" aCt f fd)(T:Txt K mg)(MC:kJ K CM):aQ P w K mg base CX0 1 f fd ["self"] (nG CM aLt):=by
 refine F.ok aTn (λvs H Q E h=>?_) (λcdv A outer s H vs Q E hr h=>?_)
 ·obtain⟨x,dd,b,es,kn,ds,rfl,_⟩:=h;rfl
 ·obtain⟨x,dd,b,es,kn,ds,rfl,⟨dx,l,e,k,kvs,g,M⟩,h64,q⟩:=h;refine⟨_,aM (aU (cB (iV rfl) (by rfl) T.sorted Bo.sorted (pac (cE (pv 0) rfl) aF))),?_⟩;exact⟨_,rfl,x,CM,dx,_,_,rfl,M.ins,MC.cl,MC.nl,by rfl,l,_,_,rfl,M.lead.dk,nL M.lead.keys,h64,λp ts' hp pm so=>q p ts' _ (smu hp) hp aE so pm⟩
theorem aTo:aR ["self"] ["self"] (aB aLi):=xfs
theorem aKe {f CM:Addr}{fd:FuncData}(F:Fun K "ends" "Machine.ends" aLi f fd)(T:Txt K mg)(MC:kJ K CM):aQ P w K mg base CX0 1 f fd ["self"] (nG CM aPy):=by
 refine F.ok aTo (λvs H Q E h=>?_) (λcdv A outer s H vs Q E hr h=>?_)
 ·obtain⟨x,dd,b,es,kn,ds,rfl,_⟩:=h;rfl
 ·obtain⟨x,dd,b,es,kn,ds,rfl,⟨dx,l,e,k,kvs,g,M⟩,h64,q⟩:=h;refine⟨_,aM (aU (cB (iV rfl) (by rfl) T.sorted Bo.sorted (pac (cE (pv 0) rfl) aF))),?_⟩;exact⟨_,rfl,x,CM,dx,_,_,rfl,M.ins,MC.cl,MC.ne,by rfl,e,_,_,rfl,M.ends,nL rfl,h64,λp ts' hp pm so=>q p ts' _ (smu hp) hp aE so pm⟩
theorem aWn:aR ["self"] ["self"] (aB aCu):=xfs
theorem aGj {f CM:Addr}{fd:FuncData}(F:Fun K "knows" "Machine.knows" aCu f fd)(T:Txt K mg)(MC:kJ K CM):aQ P w K mg base CX0 1 f fd ["self"] (nG CM aLu):=by
 refine F.ok aWn (λvs H Q E h=>?_) (λcdv A outer s H vs Q E hr h=>?_)
 ·obtain⟨x,dd,b,es,kn,ds,rfl,_⟩:=h;rfl
 ·obtain⟨x,dd,b,es,kn,ds,rfl,⟨dx,l,e,k,kvs,g,M⟩,h64,q⟩:=h;refine⟨_,aM (aU (cB (iV rfl) (by rfl) T.sorted Bo.sorted (pac (cE (pv 0) rfl) aF))),?_⟩;exact⟨_,rfl,x,CM,dx,_,_,rfl,M.ins,MC.cl,MC.nk,by rfl,k,_,_,rfl,M.know,nL rfl,h64,λp ts' hp pm so=>q p ts' _ (smu hp) hp aE so pm⟩
theorem aUd {CM:Addr}{H:Hp}{x dx l dd e k:Addr}{b:Str}{es kn:List Str}{ds:List Dr}{kvs:List (Key×V)}{g:Str->Addr}(M:MAt CM H x dx l dd e k b es kn ds kvs g){z:Str}(hz:z∈cC b es ds):gK H l (.str z) (some (.ref (g z))):=by
 have gv:=gK.k (k:=Sum.inr z) M.lead.dk;rw[M.lead.val z hz] at gv;exact gv
theorem aKu (ds:List Dr)(z y:Str):(dN (inn ds z) (Sum.inr y)).getD .non=oV (cF ds z y):=by rw[aOl]; rfl
theorem aWm:aR ["self","room"] ["self","room"] (aB uB):=xfs
theorem aKc {f fN CM cR:Addr}{fd fdN:FuncData}(F:Fun K "require_room" "Machine.require_room" uB f fd)(T:Txt K mg)(MC:kJ K CM)(mR:mg "NoRoom" = some (.ref cR))(xR:nA K cR)
  (FN:Fun K "is_name" "is_name" oZ fN fdN)(bN:aX K fdN ["thing"] [])(mN:mg "is_name" = some (.ref fN)):aQ P w K mg base (CXE P w) 2 f fd ["self","room"] (wR CM cR):=by
 have GN:aQ P w K mg base CX0 1 fN fdN ["thing"] (tG K):=sM FN T;refine okE F aWm (λvs H Q E h=>?_) (λcdv A outer s H vs Q E hr h D=>?_)
 ·obtain⟨x,dd,b,z,es,kn,ds,rfl,_⟩:=h;rfl
 ·obtain⟨x,dd,b,z,es,kn,ds,rfl,⟨dx,l,e,k,kvs,g,M⟩,hz,q1,q2⟩:=h;have hu:=jH hr;refine⟨_,aM (cK (nZ (jC (jW (bX GN hr (by rfl) mN FN.kp bN .nil bZ (pac (pv 1) aF)))) (lQ (qN (qQ hu (pv 1) (cE (pv 0) rfl))))).pt (aM (eZ D rfl (by rfl) mR xR (pac aO aF))) bS),?_⟩;refine⟨_,rfl,.str z,rfl,.inl ⟨z,rfl,xEu (bO hz),λH2 s2=>⟨_,rfl,?_⟩⟩⟩
  by_cases hn:aW z=true
  ·rw[hn];refine fX ⟨_,rfl,_,rfl,x,CM,dx,_,_,rfl,s2 _ _ M.ins,MC.cl,MC.nl,by rfl,l,_,rfl,gK.k (k:=Sum.inr z) (s2 _ _ M.lead.dk),_,rfl,?_⟩;rw[qY M.lead.keys z]
   by_cases hm:z∈cC b es ds
   ·rw[xAk hm];exact fX (q1 ⟨hn,hm⟩ H2 s2)
   ·rw[xBb hm];exact gX ⟨by show 1<=sizeLine; decide,q2 (λg=>hm g.2) H2 s2⟩
  ·rw[xCb.mpr hn];exact gX ⟨by show 1<=sizeLine; decide,q2 (λg=>hn g.1) H2 s2⟩
theorem aWp:aR ["self","room"] ["self","room"] (aB aCv):=xfs
theorem aCe {f fR CM cR:Addr}{fd fdR:FuncData}(F:Fun K "is_end" "Machine.is_end" aCv f fd)(MC:kJ K CM)
  (GR:aQ P w K mg base (CXE P w) 2 fR fdR ["self","room"] (wR CM cR))(bR:aX K fdR ["self","room"] [])(mR:eE K CM "require_room" fR):aQ P w K mg base (CXE P w) 3 f fd ["self","room"] (qH CM cR):=by
 refine okE F aWp (λvs H Q E h=>?_) (λcdv A outer s H vs Q E hr h D=>?_)
 ·obtain⟨x,dd,b,z,es,kn,ds,rfl,_⟩:=h;rfl
 ·obtain⟨x,dd,b,z,es,kn,ds,rfl,⟨dx,l,e,k,kvs,g,M⟩,hz,q1,q2⟩:=h;have hu:=jH hr;refine⟨_,aJ (dA (cS (pv 0) MC.cl mR GR hr bR .nil (D.passes λ_ _ _ z=>z) (pac (pv 1) aF))) (aM (aU (aJk (tW hu (pv 1) (cE (pv 0) rfl))))),?_⟩;refine⟨_,rfl,x,dx,_,rfl,M.ins,cZ _ _ _ _ _ _ (by decide),_,rfl,x,dd,b,z,es,kn,ds,rfl,⟨dx,l,e,k,kvs,g,M⟩,hz,λgood H2 s2=>?_,λbad H2 s2=>q2 bad H2 s2⟩;have M2:=M.same s2;refine⟨_,rfl,_,rfl,x,CM,dx,_,_,rfl,M2.ins,MC.cl,MC.ne,by rfl,e,_,rfl,gK.k (k:=Sum.inr z) M2.ends,?_⟩;rw[qY rfl z];exact q1 good H2 s2
theorem aWl:aR ["self","room","deed"] ["self","room","deed"] (aB mTo):=xfs
theorem aNw {f fR fQ C CM cR:Addr}{fd fdR fdQ:FuncData}{cl:Why->Addr}(F:Fun K "to" "Machine.to" mTo f fd)(T:Txt K mg)(DC:yB K C)(MC:kJ K CM)
  (GR:aQ P w K mg base (CXE P w) 2 fR fdR ["self","room"] (wR CM cR))(bR:aX K fdR ["self","room"] [])(mR:eE K CM "require_room" fR)
  (GQ:aQ P w K mg base (CXE P w) 3 fQ fdQ ["self","row"] (iC K C cl))(bQ:aX K fdQ ["self","row"] [])(mQ:eE K C "require" fQ):aQ P w K mg base (CXE P w) 4 f fd ["self","room","deed"] (aIn C CM cR (cl .noDeed)):=by
 refine okE F aWl (λvs H Q E h=>?_) (λcdv A outer s H vs Q E hr h D=>?_)
 ·obtain⟨x,dd,b,z,y,es,kn,ds,wk,rfl,_⟩:=h;rfl
 ·obtain⟨x,dd,b,z,y,es,kn,ds,wk,rfl,⟨dx,l,e,k,kvs,g,M⟩,hz,hW,hy,q1,q2,q3⟩:=h;have hu:=jH hr;have hr2:cM 2 _:=hr.mono (by decide)
  refine⟨_,aJ (dA (cS (pv 0) MC.cl mR GR hr2 bR .nil (D.passes λ_ _ _ z=>z) (pac (pv 1) aF)))
   (aJ (dA (cS (cE (pv 0) rfl) DC.cl mQ GQ hr bQ .nil (D.passes λ_ _ _ z=>z) (pac (cA (pac (pv 2) aF)) aF)))
   (aM (aU (tV hu (iQ hu (cE (pv 0) rfl) (pv 1) (λ_ _=>rfl)) (pv 2) ⟨by rfl,by rfl,by rfl,by rfl⟩)))),?_⟩
  refine⟨_,rfl,x,dx,_,rfl,M.ins,cZ _ _ _ _ _ _ (by decide),_,rfl,x,dd,b,z,es,kn,ds,rfl,⟨dx,l,e,k,kvs,g,M⟩,hz,λgood H2 s2=>?_,λbad H2 s2=>q3 bad H2 s2⟩;have M2:=M.same s2;obtain⟨wx,wf,ww,wo,hw0,hw1,hw2,hw3⟩:=hW;refine⟨_,rfl,x,CM,dx,_,_,rfl,M2.ins,MC.cl,MC.nd,by rfl,dd,wx,wf,rfl,s2 _ _ hw0,hw1 "require" (by decide),_,rfl,by show 1<=sizeLine; decide,λp hp=>?_⟩;have s3:=s2.trans (smu (o:=.lst [y]) hp);refine⟨dd,p,_,wk,rfl,SqL.of aE,λv hv=>?_,⟨wx,wf,ww,wo,s3 _ _ hw0,hw1,hw2,s3 _ _ hw3⟩,λH4 s4=>?_⟩
  ·rw[xAi.mp hv];exact hy
  ·have e1:([y]:List V).all (cY wk)=cY wk y:=by rw[xFw,List.all_nil,xIn]
   rw[e1]
   by_cases hg:cY wk y=true
   ·rw[xAu hg]
    obtain⟨u,rfl⟩:∃ u,y=.str u:=by
     cases y with
     | str u=>exact⟨u,rfl⟩
     | _=>cases hg
    have M4:=M.same (s3.trans s4);refine⟨_,rfl,x,CM,dx,_,_,rfl,M4.ins,MC.cl,MC.nl,by rfl,_,rfl,l,_,rfl,aUd M4 good.2,g z,rfl,?_,_,rfl,_,gK.k (k:=Sum.inr u) (M4.lead.dd z good.2),?_⟩
    ·exact .inl ⟨_,.inl (M4.lead.dd z good.2)⟩
    ·rw[aKu];exact q1 good hg u H4 rfl (s3.trans s4)
   ·rw[xAt hg];exact q2 good (xCb.mpr hg) H4 (s3.trans s4)
end
end K35
namespace K35
open PySem L2 Ky PySem.W
seal L2.PE L2.PS L2.PSs L2.PA L2.PT L2.PW L2.PG L2.PI L2.PTs L2.OpR L2.IxR L2.CallR L2.MtM L2.MtR
theorem pT {c:Int}{kn rs nm:List Str}{n i k:Nat}{x:Dr}(h:dr c kn rs nm n i k=some x):rs[i]?=some x.1/\nm[k]?=some x.2.1/\x.2.1∈kn/\x.2.2=rs.getD (drw c i k/3%n).toNat "":=by
 unfold dr at h;split at h
 ·rename_i r d hr hd
  by_cases q:(decide (d∈kn)&&decide (drw c i k%3>0))=true
  ·rw[xAu q] at h;cases h;exact⟨hr,hd,xAg (xDl.mp q).1,rfl⟩
  ·rw[xAt q] at h;cases h
 ·cases h
theorem tO (c:Int)(k:Nat):∃ T:List Str,T.length=5/\T.all aW=true/\T.Nodup/\∀ j:Nat,T[((c/5+j)%5).toNat]?=some (gZ c j):=by
 have g:=cX c (m:=5) (by decide);have t:=aPd (c%5).toNat (by omega);refine⟨tabs.getD (c%5).toNat [],t.1,t.2.1,t.2.2,λj=>?_⟩;have g':=cX (c/5+(j:Int)) (m:=5) (by decide);unfold gZ;generalize tabs.getD (c%5).toNat []=T at t ⊢;rw[xBl,xAe (by rw[t.1]; omega)];rfl
theorem yW (c:Int)(k:Nat):aW (gZ c k)=true:=by
 obtain⟨T,_,h2,_,h4⟩:=tO c k;exact xBj.mp h2 _ (xBa (h4 k))
theorem xC {c:Int}{n:Nat}:∀ z∈bY c n,aW z=true:=λz hz=>by
 obtain⟨k,_,rfl⟩:=xAp.mp hz;exact yW c k
theorem uY (c:Int){n:Nat}(hn:n<=5):(bY c n).Nodup:=by
 obtain⟨T,h1,_,h3,h4⟩:=tO c 0;unfold bY;refine xCk.mpr (xCv (λ{i j} hi hj hlt e=>?_) (xEp (n:=n)));have hi':=xCh.mp hi;have hj':=xCh.mp hj;have g1:=cX (c/5+(i:Int)) (m:=5) (by decide);have g2:=cX (c/5+(j:Int)) (m:=5) (by decide)
 have:=(xDa (i:=((c/5+i)%5).toNat) (j:=((c/5+j)%5).toNat) (by rw[h1]; omega) h3).mp (by rw[h4,h4,e])
 omega
theorem aBv {c:Int}{n i:Nat}(h:i<n):gZ c i∈bY c n:=xAp.mpr ⟨i,xCh.mpr h,rfl⟩
theorem aMf {c:Int}{kn rs nm:List Str}{n i:Nat}{x:Dr}(hn:rs.length=n)(h1:1<=n)(h:x∈oQ c kn rs nm n i):x.1∈rs/\x.2.1∈nm/\x.2.2∈rs:=by
 obtain⟨a,_,hx⟩:=xBs.mp h;obtain⟨k,_,e⟩:=xCd.mp hx;obtain⟨e1,e2,_,e3⟩:=pT e;refine⟨xBa e1,xBa e2,?_⟩;have g:=cX (drw c a k/3) (m:=(n:Int)) (by omega);rw[e3,xBl,xAe (by omega)];exact xCg _
theorem aDj {c:Int}{kn rs nm:List Str}{n i:Nat}(hr:rs.Nodup)(hm:nm.Nodup):Apart (oQ c kn rs nm n i):=by
 refine xCk.mpr (xJa.mpr ⟨λa _=>?_,?_⟩)
 ·refine List.pairwise_filterMap.mpr (xFt (λ{k k'} hlt x hx y hy e=>?_) (xEp (n:=nm.length)));obtain⟨_,e2,_⟩:=pT hx;obtain⟨_,f2,_⟩:=pT hy
  have:=(xDa (i:=k) (j:=k') (xAd.mp e2).1 hm).mp (by rw[e2,f2,(Prod.mk.inj e).2])
  omega
 ·refine xFt (λ{a a'} hlt x hx y hy e=>?_) (xEp (n:=i));obtain⟨k,_,hx⟩:=xCd.mp hx;obtain⟨k',_,hy⟩:=xCd.mp hy;obtain⟨e1,_⟩:=pT hx;obtain⟨f1,_⟩:=pT hy
  have:=(xDa (i:=a) (j:=a') (xAd.mp e1).1 hr).mp (by rw[e1,f1,(Prod.mk.inj e).1])
  omega
structure aUx (c:Int)(n:Nat)(ss:List Str):Prop where
 le:(jI c n).length<=200/\(dU c ss n).length<=200/\(oM c ss).length<=200
 nm:(cC (gZ c 0) (jI c n) (dU c ss n)).all aW=true
 ap:Apart (dU c ss n)
 dd:∀ x∈dU c ss n,x.2.1∈ss
 kn:∀ z∈aZ (dU c ss n) (oM c ss),z∈ss
 rb:∀ z∈cC (gZ c 0) (jI c n) (dU c ss n),z∈bY c n
 sm:(jI c n).length<=5/\(dU c ss n).length<=60/\(oM c ss).length<=12
theorem aAl {c:Int}{n:Nat}{ss:List Str}{x:Dr}(h:x∈dU c ss n):x∈oQ c (dC c ss) (bY c n) ss n n:=by
 unfold dU at h;dsimp only at h;split at h
 ·exact List.mem_reverse.mp h
 ·exact h
theorem aTr {c:Int}{n:Nat}{ss:List Str}(h1:1<=n)(h5:n<=5)(hs:ss.length<=12)(hd:ss.Nodup):aUx c n ss:=by
 have mem:=λ(x:Dr) (h:x∈dU c ss n)=>aMf (eQ c n) h1 (aAl h)
 have rm:∀ z∈cC (gZ c 0) (jI c n) (dU c ss n),z∈bY c n:=λz hz=>by
  rcases xBy.mp hz with hz | hz
  ·rcases xAo.mp hz with rfl | hz
   ·exact aBv (by omega)
   ·exact zD z hz
  ·obtain⟨x,hx,hz⟩:=xBs.mp hz;rcases xAo.mp hz with rfl | hz
   ·exact (mem x hx).1
   ·rw[xAi.mp hz]; exact (mem x hx).2.2
 have dl:(dU c ss n).length<=60:=by
  have a1:=uP c (dC c ss) (bY c n) ss n n;have a3:ss.length*n<=12*5:=Nat.mul_le_mul hs h5;unfold dU;dsimp only;split
  ·rw[xEj]; omega
  ·omega
 have el:(jI c n).length<=5:=xAn (lS ..) (by omega);have ml:(oM c ss).length<=12:=xAn (lS ..) (by omega);refine⟨⟨by omega,by omega,by omega⟩,xBj.mpr λz hz=>xC z (rm z hz),?_,λx hx=>(mem x hx).2.1,λz hz=>?_,rm,el,dl,ml⟩
 ·have ap:Apart (oQ c (dC c ss) (bY c n) ss n n):=aDj (uY c h5) hd;unfold dU;dsimp only;split
  ·unfold Ky.Apart at ap ⊢;rw[List.map_reverse];exact List.pairwise_reverse.mpr (xFt (λh=>Ne.symm h) ap)
  ·exact ap
 ·rcases xBy.mp hz with hz | hz
  ·obtain⟨x,hx,rfl⟩:=xAp.mp hz;exact (mem x hx).2.1
  ·exact zD z hz
end K35
namespace K35
open PySem L2 Ky PySem.W
seal L2.PE L2.PS L2.PSs L2.PA L2.PT L2.PW L2.PG L2.PI L2.PTs L2.OpR L2.IxR L2.CallR L2.MtM L2.MtR
unseal L2.MtM L2.MtR
structure MW where
 b:Str
 es:List Str
 kn:List Str
 ds:List Dr
abbrev MW.rs (m:MW):List Str:=cC m.b m.es m.ds
def parts (ms:List MW)(room:List Str)(y:Str):List (Option Str):=List.zipWith (λm z=>gH m.ds m.kn z y) ms room
def aAw (ms:List MW)(room:List Str)(y:Str):Option (List Str):=if (parts ms room y).any (λo=>o.isNone)=true then none else some ((parts ms room y).map λo=>o.getD "")
def wkn (ms:List MW):List Str:=ms.flatMap (·.kn)
def wto (ms:List MW)(room:List Str)(y:Str):Option (List Str):=if y∈wkn ms then aAw ms room y else none
def qE (ms:List MW)(room:List Str):Bool:=(List.zipWith (λm z=>decide (z∈m.es)) ms room).all id
structure ROk (ms:List MW)(room:List Str):Prop where
 len:ms.length=room.length
 mem:∀ (i:Nat) (m:MW) (z:Str),ms[i]?=some m->room[i]?=some z->aW z=true/\z∈m.rs
structure nX (CM:Addr)(H:Hp)(x p:Addr)(ms:List MW):Prop where
 ex:∃ Xs:List Addr,H p=some (.lst (Xs.map V.ref))/\Xs.length=ms.length/\∀ (i:Nat) (X:Addr) (m:MW),Xs[i]?=some X->ms[i]?=some m->MM CM H X x m.b m.es m.kn m.ds
theorem nX.same {CM:Addr}{H H':Hp}{x p:Addr}{ms:List MW}(M:nX CM H x p ms)(sm:aP H H'):nX CM H' x p ms:=by
 obtain⟨Xs,h0,h1,h2⟩:=M.ex;exact⟨Xs,sm _ _ h0,h1,λi X m a b=>(h2 i X m a b).same sm⟩
def aDm (H:Hp)(Q:VK):Option (List Str)->Prop
 | none=>∀ H',aP H H'->Q .non H'
 | some ss=>∀ (l:Addr) H',aP H H'->H l=none->H' l=some (.tup (ss.map V.str))->Q (.ref l) H'
inductive vT (CM:Addr)(vs:List V)(H:Hp)(Q:VK)(E:XK):Prop
 | mk (x p:Addr)(ms:List MW)(h0_:vs=[.ref p])(h1_:nX CM H x p ms)(h2_:ms.length<=100)(h3_:aDm H Q (some (ms.map (·.b))))
inductive aEb (K:xAb)(CM:Addr)(vs:List V)(H:Hp)(Q:VK)(E:XK):Prop
 | mk (x p t:Addr)(ms:List MW)(room:List Str)(y:Str)(h0_:vs=[.ref p,.ref t,.str y])(h1_:nX CM H x p ms)(h2_:SqT K H t (room.map V.str))(h3_:ROk ms room)(h4_:ms.length<=100)(h5_:aDm H Q (aAw ms room y))
inductive vU (K:xAb)(CM:Addr)(vs:List V)(H:Hp)(Q:VK)(E:XK):Prop
 | mk (x p t:Addr)(ms:List MW)(room:List Str)(h0_:vs=[.ref p,.ref t])(h1_:nX CM H x p ms)(h2_:SqT K H t (room.map V.str))(h3_:ROk ms room)(h4_:ms.length<=100)(h5_:∀ H',aP H H'->Q (.bl (qE ms room)) H')
inductive vQ (CM:Addr)(vs:List V)(H:Hp)(Q:VK)(E:XK):Prop
 | mk (x p:Addr)(ms:List MW)(N:List Str)(h0_:vs=[.ref p])(h1_:nX CM H x p ms)(h2_:ms.length<=10)(h3_:∀ m∈ms,∀ z∈m.kn,z∈N)(h4_:N.length<64)
  (h5_:∀ (l:Addr) (kn:List Str) H',aP H H'->H l=none->(∀ z,z∈kn↔z∈wkn ms)->H' l=some (.dK (mks kn []))->Q (.ref l) H')
theorem sS {α β γ:Type}{f:α->β->γ}:∀ {as:List α}{bs:List β}{i:Nat}{a:α}{b:β},as[i]?=some a->bs[i]?=some b->List.zipWith f (as.take (i+1)) (bs.take (i+1))=List.zipWith f (as.take i) (bs.take i)++[f a b]
 | [],_,_,_,_,h,_=>by simp at h
 | _::_,[],_,_,_,_,h=>by simp at h
 | a'::as,b'::bs,0,a,b,h1,h2=>by
  have e1:a'=a:=by simpa using h1
  have e2:b'=b:=by simpa using h2
  rw[e1,e2]
  simp
 | a'::as,b'::bs,i+1,a,b,h1,h2=>by
  have:=sS (f:=f) (as:=as) (bs:=bs) (i:=i) (a:=a) (b:=b) (by simpa using h1) (by simpa using h2)
  simp only[List.take_succ_cons,List.zipWith_cons_cons,List.cons_append] at this ⊢;rw[this]
section
variable {P:Program}{w:World}{K:xAb}{mg:xSO}{base:Heap}
theorem aWo:aR ["self","room","deed"] ["self","room","deed"] (aB aLh):=xfs
theorem aKd {f CM:Addr}{fd:FuncData}(F:Fun K "goes" "Machine.goes" aLh f fd)(MC:kJ K CM):aQ P w K mg base CX0 1 f fd ["self","room","deed"] (wS CM):=by
 refine F.ok aWo (λvs H Q E h=>?_) (λcdv A outer s H vs Q E hr h=>?_)
 ·obtain⟨x,dd,b,z,y,es,kn,ds,rfl,_⟩:=h;rfl
 ·obtain⟨x,dd,b,z,y,es,kn,ds,rfl,⟨dx,l,e,k,kvs,g,M⟩,hz,q⟩:=h;have hu:=jH hr
  refine⟨_,aJ (cK (qN (tW hu (pv 2) (cE (pv 0) rfl))) (aM (aU (tV hu (iQ hu (cE (pv 0) rfl) (pv 1) (λ_ _=>rfl)) (pv 2) ⟨by rfl,by rfl,by rfl,by rfl⟩))) bS)
   (aM (aU (pv 1))),?_⟩
  refine⟨_,rfl,_,rfl,x,CM,dx,_,_,rfl,M.ins,MC.cl,MC.nk,by rfl,k,_,rfl,gK.k (k:=Sum.inr y) M.know,_,rfl,?_⟩;rw[qV];unfold gH at q
  by_cases hy:y∈kn
  ·rw[xAu hy] at q;rw[xAk hy,Bool.true_or];refine gX ⟨_,rfl,x,CM,dx,_,_,rfl,M.ins,MC.cl,MC.nl,by rfl,_,rfl,l,_,rfl,aUd M hz,g z,rfl,?_,_,rfl,_,gK.k (k:=Sum.inr y) (M.lead.dd z hz),?_⟩
   ·exact .inl ⟨_,.inl (M.lead.dd z hz)⟩
   ·rw[aKu];exact q
  ·rw[xAt hy] at q;rw[xBb hy];exact fX ⟨_,rfl,q⟩
theorem oU {K:xAb}{H H':Hp}{a:Addr}{xs:List V}(h:SqT K H a xs)(e:aP H H'):SqT K H' a xs:=by
 rcases h with (h | ⟨o,h⟩) | h
 ·exact .inl (.inl (e _ _ h))
 ·exact .inl (.inr ⟨o,e _ _ h⟩)
 ·exact .inr h
theorem aKv:∀ {os:List (Option Str)},os.any (λo=>o.isNone)=false->os.map oV=(os.map λo=>o.getD "").map V.str
 | [],_=>rfl
 | none::_,h=>by simp at h
 | some z::os,h=>by
  rw[xCa,xCa,xCa,aKv (by simpa using h)];rfl
theorem aWz:aR ["machines"] ["machines"] (aB pC):=xfs
abbrev nd1:List Str:=["machine"]
theorem aCj {f fB CM:Addr}{fd fdB:FuncData}(F:Fun K "begin_of" "begin_of" pC f fd)(mT:mg "tuple" = none)(MC:kJ K CM)
  (GB:aQ P w K mg base CX0 1 fB fdB ["self"] (tH CM))(bB:aX K fdB ["self"] [])(mB:eE K CM "begin" fB):aQ P w K mg base CX0 2 f fd ["machines"] (vT CM):=by
 refine F.ok aWz (λvs H Q E h=>?_) (λcdv A outer s H vs Q E hr h=>?_)
 ·obtain⟨x,p,ms,rfl,_⟩:=h;rfl
 ·obtain⟨x,p,ms,rfl,M,hl,q⟩:=h
  refine⟨_,aM (aU (iE oE (by rfl) mT Bo.tuple (pac (eN (N':=nd1) (nown:=1) (js:=[]) rfl
     xbs (cJ (aB pC) ["machines"] rfl rfl (by decide +kernel))
     ⟨λ_ _ _ _=>aS (i:=0) (show List.Nodup nd1 by decide +kernel) rfl (xAy rfl) (.inr rfl),λ_ _ _ _=>eV,λ_ _ _ _=>dM (pv 0) MC.cl mB GB hr bB .nil bZ⟩
     (cU (pv 0))) aF))),?_⟩
  obtain⟨Xs,h0,h1,h2⟩:=M.ex;refine⟨_,rfl,p,rfl,⟨_,SqL.of h0⟩,λD hD=>hV (xs:=Xs.map V.ref) (λi σ' H'=>∃ v,σ'=[v]/\H' D=some (.lst (((ms.take i).map (·.b)).map V.str))/\aP H H') ?_ ?_ ?_ ?_⟩
  ·exact⟨none,rfl,aE,smu hD⟩
  ·rintro i σ' H' _ ⟨v,rfl,a1,a2⟩;exact SqL.of (a2 _ _ h0)
  ·rintro i v σ' H' hv ⟨v0,rfl,a1,a2⟩;rw[xAf] at hv;cases hX:Xs[i]? with
   | none=>rw[hX] at hv; cases hv
   | some X=>
    rw[hX] at hv;cases hv;have hi:i<ms.length:=by rw[<- h1]; exact (xAd.mp hX).1
    have hm:=xAe hi;generalize ms[i]=m at hm;have MX:=(h2 i X m hX hm).same a2;obtain⟨dx,l,e,k,kvs,g,M0⟩:=MX;refine⟨_,rfl,X,dx,_,rfl,M0.ins,cZ _ _ _ _ _ _ (by decide),X,x,m.b,m.es,m.kn,m.ds,rfl,⟨dx,l,e,k,kvs,g,M0⟩,_,a1,bO (by rw[xAa,xAa,xBe]; omega),_,rfl,?_,λb o z=>?_⟩
    ·rw[aE,xBf,hm]
     simp
    ·rw[aL (aI z hD)];exact a2 b o z
  ·rintro σ' H' ⟨v,rfl,a1,a2⟩;rw[xAa,h1,xAx] at a1;exact⟨D,_,rfl,.inl ⟨SqL.of a1,λl hl'=>q l _ (a2.trans (smu hl')) (a2.free hl') aE⟩⟩
abbrev NFO:List Str:=["machines","room","deed","parts"]
theorem aTp:aR NFO ["machines","room","deed"] (aB wY):=xfs
abbrev ndf:List Str:=["machine","part","deed"]
theorem aKm {f fG CM:Addr}{fd fdG:FuncData}(F:Fun K "far_of" "far_of" wY f fd)(mT:mg "tuple" = none)(mZ:mg "zip" = none)(MC:kJ K CM)
  (GG:aQ P w K mg base CX0 1 fG fdG ["self","room","deed"] (wS CM))(bG:aX K fdG ["self","room","deed"] [])(mG:eE K CM "goes" fG):aQ P w K mg base CX0 2 f fd ["machines","room","deed"] (aEb K CM):=by
 refine F.ok aTp (λvs H Q E h=>?_) (λcdv A outer s H vs Q E hr h=>?_)
 ·obtain⟨x,p,t,ms,room,y,rfl,_⟩:=h;rfl
 ·obtain⟨x,p,t,ms,room,y,rfl,M,hT,R,hl,q⟩:=h
  refine⟨_,aJ (gE (i:=3) (N':=ndf) (nown:=2) (js:=[2]) rfl aTp.nd rfl rfl rfl
     xbs (cJ (aB wY) NFO rfl rfl (by decide +kernel))
     ⟨λ_ _ _ _=>show PG _ _ (aAg K 2 (iN (hU 0) (iN (hU 1) aAh))) from eO rfl (aY (aS (i:=0) (show List.Nodup ndf by decide +kernel) rfl (xAy rfl) (.inr rfl)) (aY (aS (i:=1) (show List.Nodup ndf by decide +kernel) rfl (xAy rfl) (.inr rfl)) dO)),
      λ_ _ _ _=>eV,λ_ _ _ _=>cS (pv 0) MC.cl mG GG hr bG .nil bZ (pac (pv 1) (pac (pv 2) aF))⟩
     (zE rfl mZ (pac (pv 0) (pac (pv 1) aF))))
   (aM (aU (kC (aV aRj eJ (pv 3) (by with_unfolding_all rfl)) eJ (iE oE (by rfl) mT Bo.tuple (pac (pv 3) aF))))),?_⟩
  obtain⟨Xs,h0,h1,h2⟩:=M.ex;refine⟨_,rfl,_,rfl,p,t,rfl,⟨_,SqL.of h0⟩,⟨_,hT⟩,λD hD=>aFc (xs:=Xs.map V.ref) (ys:=room.map V.str) (λi σ' H'=>∃ v0 v1,σ'=[v0,v1,some (.str y)]/\H' D=some (.lst ((parts (ms.take i) (room.take i) y).map oV))/\aP H H') ?_ ?_ ?_ ?_ ?_⟩
  ·exact⟨none,none,rfl,aE,smu hD⟩
  ·rw[xAa,xAa,h1,R.len]
  ·rintro i σ' H' _ ⟨v0,v1,rfl,a1,a2⟩;exact⟨SqL.of (a2 _ _ h0),oU hT a2⟩
  ·rintro i v1 v2 σ' H' tt hv1 hv2 ⟨w0,w1,rfl,a1,a2⟩ htt;rw[xAf] at hv1 hv2;cases hX:Xs[i]? with
   | none=>rw[hX] at hv1; cases hv1
   | some X=>
    cases hzz:room[i]? with
    | none=>rw[hzz] at hv2; cases hv2
    | some z=>
     rw[hX] at hv1;rw[hzz] at hv2;cases hv1;cases hv2;have hi:i<ms.length:=by rw[<- h1]; exact (xAd.mp hX).1
     have hm:=xAe hi;generalize ms[i]=m at hm;have s3:=a2.trans (smu (o:=.tup [.ref X,.str z]) htt);have a1':(upd H' tt (.tup [.ref X,.str z])) D=some (.lst ((parts (ms.take i) (room.take i) y).map oV)):=smu htt _ _ a1;have eT:(upd H' tt (.tup [.ref X,.str z])) tt=some (.tup [.ref X,.str z]):=aE;generalize upd H' tt (.tup [.ref X,.str z])=H3 at s3 a1' eT ⊢;obtain⟨dx,l,e,k,kvs,g,M0⟩:=(h2 i X m hX hm).same s3;refine⟨tt,_,rfl,SqT.of eT,rfl,_,_,rfl,_,_,rfl,rfl,_,rfl,X,dx,_,rfl,M0.ins,cZ _ _ _ _ _ _ (by decide),_,rfl,_,rfl,X,x,m.b,z,y,m.es,m.kn,m.ds,rfl,⟨dx,l,e,k,kvs,g,M0⟩,(R.mem i m z hm hzz).2,_,a1',bO ?_,_,_,rfl,?_,λb o u=>?_⟩
     ·rw[xAa];unfold parts;rw[xFf,xBe];omega
     ·rw[aE];unfold parts;rw[sS hm hzz,xAm];rfl
     ·rw[aL (aI u hD)];exact s3 b o u
  ·rintro σ' H' ⟨v0,v1,rfl,a1,a2⟩;have e1:ms.take (Xs.map V.ref).length=ms:=by rw[xAa,h1,xAx]
   have e2:room.take (Xs.map V.ref).length=room:=by rw[xAa,h1,R.len,xAx]
   rw[e1,e2] at a1;unfold aAw at q;refine⟨_,rfl,D,parts ms room y,rfl,rfl,SqL.of a1,_,rfl,eI (λhn=>?_) (λhn=>?_)⟩
   ·rw[xAu hn] at q;exact q H' a2
   ·rw[xAt hn] at q;refine⟨_,rfl,D,_,rfl,.inl ⟨SqL.of a1,λl hl'=>q l _ (a2.trans (smu hl')) (a2.free hl') ?_⟩⟩;rw[aE,aKv (xCb.mpr hn)]
theorem fV {P:Program}{w:World}{X:Cx}:fP (CXE P w) X E0:=by
 rintro pins σ H s e s' I ⟨_,_,_,_,_,_,_,_,_,_,_,_,_,_,_,_,_,h⟩;exact h.elim
theorem aHw {ms:List MW}{i:Nat}{m:MW}(h:ms[i]?=some m)(z:Str):z∈wkn (ms.take (i+1))↔z∈wkn (ms.take i)\/z∈m.kn:=by
 unfold wkn;rw[xBf,h]
 simp
theorem aXb:aR ["machines","room"] ["machines","room"] (aB pD):=xfs
abbrev nda:List Str:=["machine","part"]
theorem aCk {f fE CM cR:Addr}{fd fdE:FuncData}(F:Fun K "all_at_ends" "all_at_ends" pD f fd)(T:Txt K mg)(mZ:mg "zip" = none)(MC:kJ K CM)
  (GE:aQ P w K mg base (CXE P w) 3 fE fdE ["self","room"] (qH CM cR))(bE:aX K fdE ["self","room"] [])(mE:eE K CM "is_end" fE):aQ P w K mg base CX0 4 f fd ["machines","room"] (vU K CM):=by
 refine F.ok aXb (λvs H Q E h=>?_) (λcdv A outer s H vs Q E hr h=>?_)
 ·obtain⟨x,p,t,ms,room,rfl,_⟩:=h;rfl
 ·obtain⟨x,p,t,ms,room,rfl,M,hT,R,hl,q⟩:=h
  refine⟨_,aM (aU (cB (wG rfl) (by rfl) T.all Bo.all (pac (eN (N':=nda) (nown:=2) (js:=[]) rfl
     xbs (cJ (aB pD) ["machines","room"] rfl rfl (by decide +kernel))
     ⟨λ_ _ _ _=>show PG _ _ (aAg K 2 (iN (hU 0) (iN (hU 1) aAh))) from eO rfl (aY (aS (i:=0) (show List.Nodup nda by decide +kernel) rfl (xAy rfl) (.inr rfl)) (aY (aS (i:=1) (show List.Nodup nda by decide +kernel) rfl (xAy rfl) (.inr rfl)) dO)),
      λ_ _ _ _=>eV,λ_ _ _ _=>cS (pv 0) MC.cl mE GE hr bE .nil fV (pac (pv 1) aF)⟩
     (zE rfl mZ (pac (pv 0) (pac (pv 1) aF)))) aF))),?_⟩
  obtain⟨Xs,h0,h1,h2⟩:=M.ex;refine⟨_,rfl,_,rfl,p,t,rfl,⟨_,SqL.of h0⟩,⟨_,hT⟩,λD hD=>aFc (xs:=Xs.map V.ref) (ys:=room.map V.str) (λi σ' H'=>∃ v0 v1,σ'=[v0,v1]/\H' D=some (.lst ((List.zipWith (λm z=>decide (z∈MW.es m)) (ms.take i) (room.take i)).map V.bl))/\aP H H') ?_ ?_ ?_ ?_ ?_⟩
  ·exact⟨none,none,rfl,aE,smu hD⟩
  ·rw[xAa,xAa,h1,R.len]
  ·rintro i σ' H' _ ⟨v0,v1,rfl,a1,a2⟩;exact⟨SqL.of (a2 _ _ h0),oU hT a2⟩
  ·rintro i v1 v2 σ' H' tt hv1 hv2 ⟨w0,w1,rfl,a1,a2⟩ htt;rw[xAf] at hv1 hv2;cases hX:Xs[i]? with
   | none=>rw[hX] at hv1; cases hv1
   | some X=>
    cases hzz:room[i]? with
    | none=>rw[hzz] at hv2; cases hv2
    | some z=>
     rw[hX] at hv1;rw[hzz] at hv2;cases hv1;cases hv2;have hi:i<ms.length:=by rw[<- h1]; exact (xAd.mp hX).1
     have hm:=xAe hi;generalize ms[i]=m at hm;have s3:=a2.trans (smu (o:=.tup [.ref X,.str z]) htt);have a1':=smu (o:=.tup [.ref X,.str z]) htt _ _ a1;have eT:(upd H' tt (.tup [.ref X,.str z])) tt=some (.tup [.ref X,.str z]):=aE;generalize upd H' tt (.tup [.ref X,.str z])=H3 at s3 a1' eT ⊢;obtain⟨dx,l,e,k,kvs,g,M0⟩:=(h2 i X m hX hm).same s3;have gd:=R.mem i m z hm hzz;refine⟨tt,_,rfl,SqT.of eT,rfl,_,_,rfl,_,_,rfl,rfl,_,rfl,X,dx,_,rfl,M0.ins,cZ _ _ _ _ _ _ (by decide),_,rfl,X,x,m.b,z,m.es,m.kn,m.ds,rfl,⟨dx,l,e,k,kvs,g,M0⟩,xAn (lY gd.1) (by decide),λ_ H4 s4=>?_,λbad=>xAz gd bad⟩;refine⟨_,s4 _ _ a1',bO ?_,_,_,rfl,?_,λb o u=>?_⟩
     ·rw[xAa,xFf,xBe];omega
     ·rw[aE,sS hm hzz,xAm];rfl
     ·rw[aL (aI u hD)];exact s4 _ _ (s3 b o u)
  ·rintro σ' H' ⟨v0,v1,rfl,a1,a2⟩;have e1:ms.take (Xs.map V.ref).length=ms:=by rw[xAa,h1,xAx]
   have e2:room.take (Xs.map V.ref).length=room:=by rw[xAa,h1,R.len,xAx]
   rw[e1,e2] at a1;exact⟨D,_,rfl,SqL.of a1,q H' a2⟩
abbrev NKO:List Str:=["machines","known","machine"]
theorem aQw:aR NKO ["machines"] (aB tM):=xfs
theorem aCg {f fKn fMk CM:Addr}{fd fdKn fdMk:FuncData}(F:Fun K "known_of" "known_of" tM f fd)(MC:kJ K CM)
  (GKn:aQ P w K mg base CX0 1 fKn fdKn ["self"] (nG CM aLu))(bKn:aX K fdKn ["self"] [])(mKn:eE K CM "knows" fKn)
  (GMk:aQ P w K mg base CX0 1 fMk fdMk ["names"] (sJ K))(kMk:keepIn K (.ref fMk)=true)(bMk:aX K fdMk ["names"] [])(mMk:mg "marks_of" = some (.ref fMk)):aQ P w K mg base CX0 2 f fd ["machines"] (vQ CM):=by
 refine F.ok aQw (λvs H Q E h=>?_) (λcdv A outer s H vs Q E hr h=>?_)
 ·obtain⟨x,p,ms,N,rfl,_⟩:=h;rfl
 ·obtain⟨x,p,ms,N,rfl,M,hl,hN,h64,q⟩:=h
  refine⟨_,aJ (bJ (i:=1) aQw.nd rfl (xAy rfl) (cA aF))
   (aJ (dZ PassesOwn.never rfl (cU (pv 0)) (aS (i:=2) aQw.nd rfl (xAy rfl))
    (aM (dA (lW xBq xEn xEm nK (pv 1) (pac (dM (pv 2) MC.cl mKn GKn hr bKn .nil bZ) aF)))))
   (aM (aU (bX GMk hr rfl mMk kMk bMk .nil bZ (pac (pv 1) aF))))),?_⟩
  obtain⟨Xs,h0,h1,h2⟩:=M.ex;refine⟨by show 0<=sizeLine; decide,λD hD=>⟨_,rfl,p,rfl,⟨_,SqL.of (smu hD _ _ h0)⟩,?_⟩⟩;refine dE (xs:=Xs.map V.ref) (λi σ H'=>∃ (x2:Option V) (kn:List Str),σ=[some (.ref p),some (.ref D),x2]/\(∀ z,z∈kn↔z∈wkn (ms.take i))/\kn.length<=64*i/\H' D=some (.lst (kn.map V.str))/\aP H H') ?_ ?_ ?_ ?_
  ·exact⟨none,[],rfl,λz=>Iff.rfl,xAl _,aE,smu hD⟩
  ·rintro i σ H' _ ⟨x2,kn,rfl,b1,b2,a1,a2⟩;exact SqL.of (a2 _ _ h0)
  ·rintro i v σ H' hv ⟨x2,kn,rfl,b1,b2,a1,a2⟩;rw[xAf] at hv;cases hX:Xs[i]? with
   | none=>rw[hX] at hv; cases hv
   | some X=>
    rw[hX] at hv;cases hv;have hi:i<ms.length:=by rw[<- h1]; exact (xAd.mp hX).1
    have hm:=xAe hi;have hmm:ms[i]∈ms:=xCg hi;generalize ms[i]=m at hm hmm;obtain⟨dx,l,e,k,kvs,g,M0⟩:=(h2 i X m hX hm).same a2;have u64:(unl m.kn []).length<64:=xCc (eG λz hz=>hN m hmm z hz) h64;refine⟨_,rfl,.inl ⟨rfl,_,SqL.of a1⟩,_,rfl,X,dx,_,rfl,M0.ins,cZ _ _ _ _ _ _ (by decide),X,x,m.b,m.es,m.kn,m.ds,rfl,⟨dx,l,e,k,kvs,g,M0⟩,u64,λl1 ts H2 s2 n1 g1 _ pm=>?_⟩;have tl:ts.length<64:=by rw[pm.length_eq]; exact u64
    refine⟨D,l1,_,_,rfl,rfl,s2 _ _ a1,g1,iL (by rw[xAa,xAa]; omega),?_⟩;refine⟨_,kn++ts,rfl,λz=>?_,by rw[xAr]; omega,by rw[aE,xAm],λb o u=>?_⟩
    ·rw[xBy,b1,aHw hm,pm.mem_iff,kP]
    ·rw[aL (aI u hD)];exact s2 _ _ (a2 b o u)
  ·rintro σ H' ⟨x2,kn,rfl,b1,b2,a1,a2⟩;have e1:ms.take (Xs.map V.ref).length=ms:=by rw[xAa,h1,xAx]
   rw[e1] at b1;rw[xAa,h1] at b2;refine⟨_,rfl,D,kn,rfl,SqL.of a1,by omega,λd H2 s2 n2 g2=>q d kn H2 (a2.trans s2) (a2.free n2) b1 g2⟩
def NLs (H H':Hp):Prop:=∀ b o,H b=some o->(∀ xs,o≠.lst xs)->H' b=some o
theorem aLe {CM:Addr}{H H':Hp}{x dd:Addr}{b:Str}{es kn:List Str}{ds:List Dr}(h:MM CM H x dd b es kn ds)(s:NLs H H'):MM CM H' x dd b es kn ds:=by
 obtain⟨dx,l,e,k,kvs,g,M⟩:=h;exact⟨dx,l,e,k,kvs,g,⟨s _ _ M.ins (λ_ z=>nomatch z),⟨s _ _ M.lead.dk (λ_ z=>nomatch z),M.lead.keys,M.lead.val,λz hz=>s _ _ (M.lead.dd z hz) (λ_ z=>nomatch z),M.lead.inj,M.lead.ne⟩,s _ _ M.ends (λ_ z=>nomatch z),s _ _ M.know (λ_ z=>nomatch z)⟩⟩
theorem aEk {H:Hp}{l:Addr}{xs ys:List V}(hm:H l=some (.lst xs)):NLs H (upd H l (.lst ys)):=λb o e n=>by
 rw[aL (λz=>by rw[z,hm] at e; exact n _ (xBt e).symm)];exact e
abbrev aHy (lm lk:Addr):List (Str×V):=[("machines",.ref lm),("known_marks",.ref lk)]
abbrev aPb:List Str:=["deeds","begin","knows","at","to","is_end","ways","rooms"]
theorem dY (lm lk:Addr):∀ m∈aPb,(aHy lm lk).lookup m=none:=by
 have h:∀ m∈aPb,(m==("machines" : Str))=false/\(m==("known_marks" : Str))=false:=by decide +kernel
 intro m hm;obtain⟨h1,h2⟩:=h m hm;simp only[List.lookup,h1,h2]
inductive Wv (CM CW:Addr)(H:Hp)(v x:Addr)(ms:List MW):Prop
 | mk (dv lm lk:Addr)(kn:List Str)(ins:H v=some (.ins CW dv (aHy lm lk)))(mm:nX CM H x lm ms)(dk:H lk=some (.dK (mks kn [])))(kk:∀ z,z∈kn↔z∈wkn ms)
theorem Wv.same {CM CW:Addr}{H H':Hp}{v x:Addr}{ms:List MW}(W:Wv CM CW H v x ms)(sm:aP H H'):Wv CM CW H' v x ms:=by
 obtain⟨dv,lm,lk,kn,h1,h2,h3,h4⟩:=W;exact⟨dv,lm,lk,kn,sm _ _ h1,h2.same sm,sm _ _ h3,h4⟩
structure uS (K:xAb)(CW:Addr):Prop where
 cl:Cls K CW
 nm:dD K CW "machines"
 nk:dD K CW "known_marks"
theorem aRs {CM CW:Addr}{H H':Hp}{v dv x p:Addr}{ms:List MW}(hv:H v=some (.ins CW dv []))(s:SameBut v H H')(M:nX CM H x p ms):nX CM H' x p ms:=by
 have k:∀ {b:Addr}{o:HO},H b=some o->o≠.ins CW dv []->H' b=some o:=λ{b o} e n=>s b o (λz=>n (by rw[z,hv] at e; exact (xBt e).symm)) e;obtain⟨Xs,h0,h1,h2⟩:=M.ex;refine⟨Xs,k h0 (λz=>nomatch z),h1,λi X m a b=>?_⟩;obtain⟨dx,l,e,kk,kvs,g,M0⟩:=h2 i X m a b;exact⟨dx,l,e,kk,kvs,g,⟨k M0.ins (λz=>by cases z),⟨k M0.lead.dk (λz=>nomatch z),M0.lead.keys,M0.lead.val,λz hz=>k (M0.lead.dd z hz) (λz=>nomatch z),M0.lead.inj,M0.lead.ne⟩,k M0.ends (λz=>nomatch z),k M0.know (λz=>nomatch z)⟩⟩
inductive wO (CM CW cT:Addr)(vs:List V)(H:Hp)(Q:VK)(E:XK):Prop
 | mk (v dv x p:Addr)(ms:List MW)(N:List Str)(h0_:vs=[.ref v,.ref p])(h1_:H v=some (.ins CW dv []))(h2_:nX CM H x p ms)(h3_:1<=ms.length/\ms.length<=7)(h4_:∀ m∈ms,∀ z∈m.kn,z∈N)(h5_:N.length<64)(h6_:∀ H',SameBut v H H'->Wv CM CW H' v x ms->(∀ d xs,H d=some (.lst xs)->Wv CM CW (upd H' d (.lst [])) v x ms)->Q .non H')
 | bad (v p:Addr) (xs:List V) (h0_:vs=[.ref v,.ref p]) (h1_:H p=some (.lst xs)) (h2_:xs.length=0\/7<xs.length) (h3_:E (.ref cT) none H)
inductive tD (CM CW:Addr)(vs:List V)(H:Hp)(Q:VK)(E:XK):Prop
 | mk (v x:Addr)(ms:List MW)(h0_:vs=[.ref v])(h1_:Wv CM CW H v x ms)(h2_:1<=ms.length)(h3_:Q (.ref x) H)
inductive tE (CM CW:Addr)(vs:List V)(H:Hp)(Q:VK)(E:XK):Prop
 | mk (v x:Addr)(ms:List MW)(h0_:vs=[.ref v])(h1_:Wv CM CW H v x ms)(h2_:ms.length<=100)(h3_:aDm H Q (some (ms.map (·.b))))
structure Srt (ts:List Str)(p:Str->Prop):Prop where
 so:xBp ts=true
 nd:ts.Nodup
 mem:∀ z,z∈ts↔p z
theorem Srt.one {ts us:List Str}{p q:Str->Prop}(h:Srt ts p)(g:Srt us q)(e:∀ z,p z↔q z):ts=us:=
 aBi (s:=us) ((xHw h.nd g.nd).mpr λz=>by rw[h.mem,g.mem,e]) (List.Perm.refl _) h.so g.so
inductive sZ (CM CW:Addr)(vs:List V)(H:Hp)(Q:VK)(E:XK):Prop
 | mk (v x:Addr)(ms:List MW)(N:List Str)(h0_:vs=[.ref v])(h1_:Wv CM CW H v x ms)(h2_:∀ z∈wkn ms,z∈N)(h3_:N.length<64)(h4_:∀ (l:Addr) (ts:List Str) H',aP H H'->H l=none->H' l=some (.lst (ts.map V.str))->Srt ts (λz=>z∈wkn ms)->Q (.ref l) H')
inductive yK (K:xAb)(CM CW:Addr)(vs:List V)(H:Hp)(Q:VK)(E:XK):Prop
 | mk (v x t:Addr)(ms:List MW)(room:List Str)(h0_:vs=[.ref v,.ref t])(h1_:Wv CM CW H v x ms)(h2_:SqT K H t (room.map V.str))(h3_:ROk ms room)(h4_:ms.length<=100)(h5_:∀ H',aP H H'->Q (.bl (qE ms room)) H')
theorem aVz:aR ["self","machines"] ["self","machines"] (aB aHx):=xfs
theorem aJq {f fK CM CW cT:Addr}{fd fdK:FuncData}(F:Fun K "__init__" "Woven.__init__" aHx f fd)(T:Txt K mg)(WC:uS K CW)(mMW:∃ t,mg "MOST_WOVEN" = some (.int 7 t))(mTM:mg "TooMany" = some (.ref cT))(xTM:nA K cT)
  (GK:aQ P w K mg base CX0 2 fK fdK ["machines"] (vQ CM))(kK:keepIn K (.ref fK)=true)(bK:aX K fdK ["machines"] [])(mK:mg "known_of" = some (.ref fK)):aQ P w K mg base (CXE P w) 3 f fd ["self","machines"] (wO CM CW cT):=by
 obtain⟨tw,mMW⟩:=mMW;refine okE F aVz (λvs H Q E h=>?_) (λcdv A outer s H vs Q E hr h D=>?_)
 ·rcases h with⟨v,dv,x,p,ms,N,rfl,_⟩ | ⟨v,p,xs,rfl,_⟩ <;> rfl
 ·refine⟨_,aJ (cK (nZ (jC (tR (pv 1) (λ_=>rfl))) (lQ (aV pJ (cB cL (by rfl) T.len Bo.len (pac (pv 1) aF)) (hG (v:=.int 7) (by rfl) mMW ⟨_,rfl⟩) (bC _)))).pt (aM (eZ D rfl (by rfl) mTM xTM (pac aO aF))) bS)
   (aJ (gL (pv 0) (iE pW (by rfl) T.list Bo.list (pac (pv 1) aF)) rfl)
   (aM (gL (pv 0) (bX GK hr rfl mK kK bK .nil bZ (pac (pv 1) aF)) rfl))),?_⟩
  rcases h with⟨v,dv,x,p,ms,N,rfl,hv,M,hl,hN,h64,q⟩ | ⟨v,p,xs,rfl,h0,hb,q⟩
  rotate_left
  ·cases xs with
   | nil=>exact⟨_,rfl,false,.inl ⟨_,SqL.of h0,rfl⟩,gX ⟨by show 1<=sizeLine; decide,q⟩⟩
   | cons y ys=>exact⟨_,rfl,true,.inl ⟨_,SqL.of h0,rfl⟩,fX ⟨_,rfl,p,_,rfl,.inl (SqL.of h0),_,_,rfl,rfl,_,rfl,eI (λ_=>⟨by show 1<=sizeLine; decide,q⟩) λz=>xAz (xAk (by simp only[List.length_cons] at hb ⊢; omega)) z⟩⟩
  obtain⟨Xs,h0,h1,h2⟩:=M.ex
  have hne:(Xs.map V.ref).isEmpty=false:=by
   cases Xs with
   | nil=>simp at h1; omega
   | cons _ _=>rfl
  refine⟨_,rfl,true,.inl ⟨_,SqL.of h0,by rw[hne]; rfl⟩,fX ⟨_,rfl,p,_,rfl,.inl (SqL.of h0),_,_,rfl,rfl,_,rfl,eI (λz=>xAz (xAg z) (by rw[xAa]; omega)) λ_=>?_⟩⟩;refine⟨_,rfl,p,_,rfl,.inl (SqL.of h0),λlm hlm=>⟨_,rfl,v,CW,dv,[],rfl,smu hlm _ _ hv,WC.cl,WC.nm,by decide,?_⟩⟩;have nv:lm≠v:=λz=>by rw[z,hv] at hlm; cases hlm
  generalize hH2:upd (upd H lm _) v _=H2;have s2:SameBut v H H2:=λb o n e=>by rw[<- hH2,aL n]; exact smu hlm _ _ e
  have v2:H2 v=some (.ins CW dv [("machines",.ref lm)]):=by rw[<- hH2,aE]; rfl
  have l2:H2 lm=some (.lst (Xs.map V.ref)):=by rw[<- hH2,aL nv,aE]
  clear hH2;have M2:=aRs hv s2 M
  have M2':nX CM H2 x lm ms:=by
   obtain⟨Ys,k0,k1,k2⟩:=M2.ex;have pv':p≠v:=λz=>by rw[z,hv] at h0; cases h0
   have e:=s2 _ _ pv' h0;rw[k0] at e;have e':Ys.map V.ref=Xs.map V.ref:=HO.lst.inj (xBt e);exact⟨Ys,by rw[e']; exact l2,k1,k2⟩
  refine⟨_,rfl,x,p,ms,N,rfl,M2,by omega,hN,h64,λlk kn H3 s3 hlk hkn g3=>⟨_,rfl,v,CW,dv,_,rfl,s3 _ _ v2,WC.cl,WC.nk,by show 1<1000; decide,?_⟩⟩;have kv:lk≠v:=λz=>by rw[z,v2] at hlk; cases hlk
  have M3:=M2'.same s3;have v3:=s3 _ _ v2;have sF:SameBut v H (upd H3 v (.ins CW dv (gO "known_marks" (.ref lk) [("machines",.ref lm)]))):=λb o n e=>by rw[aL n]; exact s3 _ _ (s2 b o n e)
  have vF:(upd H3 v (.ins CW dv (gO "known_marks" (.ref lk) [("machines",.ref lm)]))) v=some (.ins CW dv (aHy lm lk)):=aE;have kF:(upd H3 v (.ins CW dv (gO "known_marks" (.ref lk) [("machines",.ref lm)]))) lk=some (.dK (mks kn [])):=by rw[aL kv]; exact g3
  have MF:nX CM (upd H3 v (.ins CW dv (gO "known_marks" (.ref lk) [("machines",.ref lm)]))) x lm ms:=by
   have k:∀ {b:Addr}{o:HO},H3 b=some o->o≠.ins CW dv [("machines",.ref lm)]->(upd H3 v (.ins CW dv (gO "known_marks" (.ref lk) [("machines",.ref lm)]))) b=some o:=λ{b o} e n=>by
    rw[aL (λz=>n (by rw[z,v3] at e; exact (xBt e).symm))];exact e
   obtain⟨Ys,k0,k1,k2⟩:=M3.ex;refine⟨Ys,k k0 (λz=>nomatch z),k1,λi X m a b=>?_⟩;obtain⟨dx,l,e,kk,kvs,g,M0⟩:=k2 i X m a b;exact⟨dx,l,e,kk,kvs,g,⟨k M0.ins (λz=>by cases z),⟨k M0.lead.dk (λz=>nomatch z),M0.lead.keys,M0.lead.val,λz hz=>k (M0.lead.dd z hz) (λz=>nomatch z),M0.lead.inj,M0.lead.ne⟩,k M0.ends (λz=>nomatch z),k M0.know (λz=>nomatch z)⟩⟩
  refine q _ sF ⟨dv,lm,lk,kn,vF,MF,kF,hkn⟩ λd xs hd=>?_;have dv':d≠v:=λz=>by rw[z,hv] at hd; cases hd
  have hdF:=sF d _ dv' hd;have ld:lm≠d:=λz=>by rw[z,hd] at hlm; cases hlm
  generalize upd H3 v (.ins CW dv (gO "known_marks" (.ref lk) [("machines",.ref lm)]))=HF at sF vF kF MF hdF;have nk:NLs HF (upd HF d (.lst [])):=aEk hdF;obtain⟨Ys,k0,k1,k2⟩:=MF.ex;exact⟨dv,lm,lk,kn,nk _ _ vF (λ_ z=>nomatch z),⟨Ys,by rw[aL ld]; exact k0,k1,λi X m a b=>aLe (k2 i X m a b) nk⟩,nk _ _ kF (λ_ z=>nomatch z),hkn⟩
theorem aWb:aR ["self"] ["self"] (aB aAz):=xfs
theorem aFz {f fD CM CW:Addr}{fd fdD:FuncData}(F:Fun K "deeds" "Woven.deeds" aAz f fd)(WC:uS K CW)(MC:kJ K CM)
  (GD:aQ P w K mg base CX0 1 fD fdD ["self"] (yP CM))(bD:aX K fdD ["self"] [])(mD:eE K CM "deeds" fD):aQ P w K mg base CX0 2 f fd ["self"] (tD CM CW):=by
 refine F.ok aWb (λvs H Q E h=>?_) (λcdv A outer s H vs Q E hr h=>?_)
 ·obtain⟨v,x,ms,rfl,_⟩:=h;rfl
 ·obtain⟨v,x,ms,rfl,⟨dv,lm,lk,kn,hi,M,hk,hkn⟩,hl,q⟩:=h;refine⟨_,aM (aU (dM (cG dG (cE (pv 0) rfl) aN (λ_ _=>rfl)) MC.cl mD GD hr bD .nil bZ)),?_⟩;obtain⟨Xs,h0,h1,h2⟩:=M.ex;have hX:=xAe (l:=Xs) (i:=0) (by omega);have hm:=xAe (l:=ms) (i:=0) (by omega);generalize Xs[0]'(by omega)=X at hX;generalize ms[0]'(by omega)=m at hm;obtain⟨dx,l,e,k,kvs,g,M0⟩:=h2 0 X m hX hm;exact⟨_,rfl,v,CW,dv,_,_,rfl,hi,WC.cl,WC.nm,by rfl,lm,_,_,.ref X,rfl,rfl,SqL.of h0,iK (j:=0) (by rw[xAf,hX]; rfl),X,dx,_,rfl,M0.ins,cZ _ _ _ _ _ _ (by decide),X,x,m.b,m.es,m.kn,m.ds,rfl,⟨dx,l,e,k,kvs,g,M0⟩,q⟩
theorem aWc:aR ["self"] ["self"] (aB aBa):=xfs
theorem aGa {f fB CM CW:Addr}{fd fdB:FuncData}(F:Fun K "begin" "Woven.begin" aBa f fd)(WC:uS K CW)
  (GB:aQ P w K mg base CX0 2 fB fdB ["machines"] (vT CM))(kB:keepIn K (.ref fB)=true)(bB:aX K fdB ["machines"] [])(mB:mg "begin_of" = some (.ref fB)):aQ P w K mg base CX0 3 f fd ["self"] (tE CM CW):=by
 refine F.ok aWc (λvs H Q E h=>?_) (λcdv A outer s H vs Q E hr h=>?_)
 ·obtain⟨v,x,ms,rfl,_⟩:=h;rfl
 ·obtain⟨v,x,ms,rfl,⟨dv,lm,lk,kn,hi,M,hk,hkn⟩,hl,q⟩:=h;exact⟨_,aM (aU (bX GB hr (by rfl) mB kB bB .nil bZ (pac (cE (pv 0) rfl) aF))),_,rfl,v,CW,dv,_,_,rfl,hi,WC.cl,WC.nm,by rfl,x,lm,ms,rfl,M,hl,q⟩
theorem aVy:aR ["self"] ["self"] (aB aAx):=xfs
theorem aFx {f CM CW:Addr}{fd:FuncData}(F:Fun K "knows" "Woven.knows" aAx f fd)(T:Txt K mg)(WC:uS K CW):aQ P w K mg base CX0 1 f fd ["self"] (sZ CM CW):=by
 refine F.ok aVy (λvs H Q E h=>?_) (λcdv A outer s H vs Q E hr h=>?_)
 ·obtain⟨v,x,ms,N,rfl,_⟩:=h;rfl
 ·obtain⟨v,x,ms,N,rfl,⟨dv,lm,lk,kn,hi,M,hk,hkn⟩,hN,h64,q⟩:=h;refine⟨_,aM (aU (cB (iV rfl) (by rfl) T.sorted Bo.sorted (pac (cE (pv 0) rfl) aF))),?_⟩;exact⟨_,rfl,v,CW,dv,_,_,rfl,hi,WC.cl,WC.nk,by rfl,lk,_,_,rfl,hk,nL rfl,xCc (eG λz hz=>hN z ((hkn z).mp hz)) h64,λl ts hl' pm so=>q l ts _ (smu hl') hl' aE ⟨so,pm.nodup_iff.mpr (nC _ _ .nil),λz=>by rw[pm.mem_iff,kP,hkn]⟩⟩
theorem aWa:aR ["self","room"] ["self","room"] (aB aAy):=xfs
theorem aFy {f fA CM CW:Addr}{fd fdA:FuncData}(F:Fun K "is_end" "Woven.is_end" aAy f fd)(WC:uS K CW)
  (GA:aQ P w K mg base CX0 4 fA fdA ["machines","room"] (vU K CM))(kA:keepIn K (.ref fA)=true)(bA:aX K fdA ["machines","room"] [])(mA:mg "all_at_ends" = some (.ref fA)):aQ P w K mg base CX0 5 f fd ["self","room"] (yK K CM CW):=by
 refine F.ok aWa (λvs H Q E h=>?_) (λcdv A outer s H vs Q E hr h=>?_)
 ·obtain⟨v,x,t,ms,room,rfl,_⟩:=h;rfl
 ·obtain⟨v,x,t,ms,room,rfl,⟨dv,lm,lk,kn,hi,M,hk,hkn⟩,hT,R,hl,q⟩:=h;exact⟨_,aM (aU (bX GA hr (by rfl) mA kA bA .nil bZ (pac (cE (pv 0) rfl) (pac (pv 1) aF)))),_,rfl,v,CW,dv,_,_,rfl,hi,WC.cl,WC.nm,by rfl,_,rfl,x,lm,t,ms,room,rfl,M,hT,R,hl,q⟩
theorem nY {l:List Str}{p:Str->Bool}(h:xBp l=true):xBp (l.filter p)=true:=PyProof.Rows.sortedS_of_pairwise _ ((qJ h).filter p)
theorem Srt.filter {l:List Str}{q:Str->Prop}(h:Srt l q)(p:Str->Bool):Srt (l.filter p) (λz=>q z/\p z=true):=
 ⟨nY h.so,h.nd.filter p,λz=>by rw[xBx,h.mem]⟩
inductive aDv (K:xAb)(C CM CW cD:Addr)(vs:List V)(H:Hp)(Q:VK)(E:XK):Prop
 | mk (v x t:Addr)(y:V)(ms:List MW)(room:List Str)(wk:List (Key×V))(h0_:vs=[.ref v,.ref t,y])(h1_:Wv CM CW H v x ms)(h2_:SqT K H t (room.map V.str))(h3_:ROk ms room)(h4_:1<=ms.length/\ms.length<=100)(h5_:WAt C H x wk)(h6_:aAs y)
  (h7_:cY wk y=true->∀ u,y=.str u->aDm H Q (wto ms room u))(h8_:cY wk y=false->∀ H',aP H H'->E (.ref cD) none H')
inductive aPg (K:xAb)(C CM CW:Addr)(vs:List V)(H:Hp)(Q:VK)(E:XK):Prop
 | mk (v x t:Addr)(ms:List MW)(room N:List Str)(wk:List (Key×V))(h0_:vs=[.ref v,.ref t])(h1_:Wv CM CW H v x ms)(h2_:SqT K H t (room.map V.str))(h3_:ROk ms room)(h4_:1<=ms.length/\ms.length<=100)(h5_:WAt C H x wk)(h6_:∀ z∈wkn ms,z∈N)(h7_:N.length<64)(h8_:∀ z∈N,cY wk (.str z)=true)
  (h9_:∀ (l:Addr) (ts:List Str) H',aP H H'->H l=none->H' l=some (.lst (ts.map V.str))->Srt ts (λz=>z∈wkn ms/\(wto ms room z).isSome=true)->Q (.ref l) H')
theorem aDm.mono {H H1:Hp}{Q:VK}{o:Option (List Str)}(h:aDm H Q o)(s:aP H H1):aDm H1 Q o:=by
 cases o with
 | none=>exact λH' s'=>h H' (s.trans s')
 | some ss=>exact λl H' s' n e=>h l H' (s.trans s') (s.free n) e
theorem eU {C:Addr}{H H':Hp}{p:Addr}{kvs:List (Key×V)}(W:WAt C H p kvs)(sm:aP H H'):WAt C H' p kvs:=by
 obtain⟨dx,fs,dw,o,h0,h1,h2,h3⟩:=W;exact⟨dx,fs,dw,o,sm _ _ h0,h1,h2,sm _ _ h3⟩
theorem rF {wk:List (Key×V)}{z:Str}(h:cY wk (.str z)=true):z.length<=1000:=xAn (lY (xDl.mp h).1) (by decide)
theorem aVw:aR ["self","room","deed"] ["self","room","deed"] (aB wTo):=xfs
theorem aRl {f fD fQ fF C CM CW:Addr}{fd fdD fdQ fdF:FuncData}{cl:Why->Addr}(F:Fun K "to" "Woven.to" wTo f fd)(DC:yB K C)(WC:uS K CW)
  (GD:aQ P w K mg base CX0 2 fD fdD ["self"] (tD CM CW))(bD:aX K fdD ["self"] [])(mD:eE K CW "deeds" fD)
  (GQ:aQ P w K mg base (CXE P w) 3 fQ fdQ ["self","row"] (iC K C cl))(bQ:aX K fdQ ["self","row"] [])(mQ:eE K C "require" fQ)
  (GF:aQ P w K mg base CX0 2 fF fdF ["machines","room","deed"] (aEb K CM))(kF:keepIn K (.ref fF)=true)(bF:aX K fdF ["machines","room","deed"] [])(mF:mg "far_of" = some (.ref fF)) :
  aQ P w K mg base (CXE P w) 4 f fd ["self","room","deed"] (aDv K C CM CW (cl .noDeed)):=by
 refine okE F aVw (λvs H Q E h=>?_) (λcdv A outer s H vs Q E hr h D=>?_)
 ·obtain⟨v,x,t,y,ms,room,wk,rfl,_⟩:=h;rfl
 ·obtain⟨v,x,t,y,ms,room,wk,rfl,W,hT,R,hl,hW,hy,q1,q2⟩:=h;have hu:=jH hr;have hr2:cM 2 _:=hr.mono (by decide)
  refine⟨_,aJ (dA (cS (dM (pv 0) WC.cl mD GD hr2 bD .nil bZ) DC.cl mQ GQ hr bQ .nil (D.passes λ_ _ _ z=>z) (pac (cA (pac (pv 2) aF)) aF)))
   (aJ (cK (qN (qQ hu (pv 2) (cE (pv 0) rfl))) (aM (aU eJ)) bS)
   (aM (aU (bX GF hr2 (by rfl) mF kF bF .nil bZ (pac (cE (pv 0) rfl) (pac (pv 1) (pac (pv 2) aF))))))),?_⟩
  obtain⟨dv,lm,lk,kn,hi,M,hk,hkn⟩:=id W;obtain⟨wx,wf,ww,wo,hw0,hw1,hw2,hw3⟩:=id hW;refine⟨_,rfl,v,dv,_,rfl,hi,dY _ _ _ (by decide),v,x,ms,rfl,W,hl.1,x,wx,wf,rfl,hw0,hw1 "require" (by decide),_,rfl,by show 1<=sizeLine; decide,λp hp=>?_⟩;have s3:=smu (o:=.lst [y]) hp;refine⟨x,p,_,wk,rfl,SqL.of aE,λu hv=>?_,eU hW s3,λH4 s4=>?_⟩
  ·rw[xAi.mp hv];exact hy
  ·have e1:([y]:List V).all (cY wk)=cY wk y:=by rw[xFw,List.all_nil,xIn]
   rw[e1]
   by_cases hg:cY wk y=true
   ·rw[xAu hg]
    obtain⟨u,rfl⟩:∃ u,y=.str u:=by
     cases y with
     | str u=>exact⟨u,rfl⟩
     | _=>cases hg
    have s5:=s3.trans s4;have qq:=(q1 hg u rfl).mono s5;unfold wto at qq;refine⟨_,rfl,_,rfl,v,CW,dv,_,_,rfl,s5 _ _ hi,WC.cl,WC.nk,by rfl,lk,_,rfl,gK.k (k:=Sum.inr u) (s5 _ _ hk),_,rfl,?_⟩;rw[qY rfl u]
    by_cases hm:u∈wkn ms
    ·rw[xAk ((hkn u).mpr hm)];rw[xAu hm] at qq;exact fX ⟨_,rfl,v,CW,dv,_,_,rfl,s5 _ _ hi,WC.cl,WC.nm,by rfl,_,rfl,_,rfl,x,lm,t,ms,room,u,rfl,M.same s5,oU hT s5,R,hl.2,qq⟩
    ·rw[xBb λz=>hm ((hkn u).mp z)];rw[xAt hm] at qq;exact gX (qq H4 (aP.refl H4))
   ·rw[xAt hg];exact q2 (xCb.mpr hg) H4 (s3.trans s4)
theorem aWd:aR ["self","room"] ["self","room"] (aB wAt):=xfs
abbrev ndw:List Str:=["deed","self","room"]
theorem aRm {f fK fT C CM CW cD:Addr}{fd fdK fdT:FuncData}(F:Fun K "at" "Woven.at" wAt f fd)(WC:uS K CW)
  (GK:aQ P w K mg base CX0 1 fK fdK ["self"] (sZ CM CW))(bK:aX K fdK ["self"] [])(mK:eE K CW "knows" fK)
  (GT:aQ P w K mg base (CXE P w) 4 fT fdT ["self","room","deed"] (aDv K C CM CW cD))(bT:aX K fdT ["self","room","deed"] [])(mT:eE K CW "to" fT) :
  aQ P w K mg base CX0 5 f fd ["self","room"] (aPg K C CM CW):=by
 refine F.ok aWd (λvs H Q E h=>?_) (λcdv A outer s H vs Q E hr h=>?_)
 ·obtain⟨v,x,t,ms,room,N,wk,rfl,_⟩:=h;rfl
 ·obtain⟨v,x,t,ms,room,N,wk,rfl,W,hT,R,hl,hW,hN,h64,hg,q⟩:=h;have hr1:cM 1 _:=hr.mono (by decide)
  refine⟨_,aM (aU (eN (N':=ndw) (nown:=1) (js:=[0,1]) rfl
     xbs (cJ (aB wAt) ["self","room"] rfl rfl (by decide +kernel))
     ⟨λ_ _ _ _=>aS (i:=0) (show List.Nodup ndw by decide +kernel) rfl (xAy rfl) (.inr rfl),
      λ_ _ _ _=>iP (aV jS (cS (pv 1) WC.cl mT GT hr bT .nil fV (pac (pv 2) (pac (pv 0) aF))) eJ (bC _)),
      λ_ _ _ _=>pv 0⟩
     (cU (dM (pv 0) WC.cl mK GK hr1 bK .nil bZ)))),?_⟩
  obtain⟨dv,lm,lk,kn,hi,M,hk,hkn⟩:=id W;refine⟨_,rfl,v,dv,_,rfl,hi,dY _ _ _ (by decide),v,x,ms,N,rfl,W,hN,h64,λl ts H2 s2 n2 g2 S2=>⟨l,rfl,⟨_,SqL.of g2⟩,λD hD=>?_⟩⟩
  have lts:ts.length<64:=by
   have:ts.length<=N.length:=by
    have:=eG (rs:=ts) (N:=N) λz hz=>hN z ((S2.mem z).mp hz)
    rw[<- (lU (m:=unl ts []) S2.nd (λz hz=>kP.mpr hz) (eG λz hz=>hz)).length_eq] at this;exact this
   omega
  refine hV (xs:=ts.map V.str) (λi σ' H'=>∃ v0,σ'=[v0,some (.ref v),some (.ref t)]/\H' D=some (.lst (((ts.take i).filter λz=>(wto ms room z).isSome).map V.str))/\aP H2 H') ?_ ?_ ?_ ?_
  ·exact⟨none,rfl,aE,smu hD⟩
  ·rintro i σ' H' _ ⟨v0,rfl,a1,a2⟩;exact SqL.of (a2 _ _ g2)
  ·rintro i u σ' H' hv ⟨v0,rfl,a1,a2⟩;rw[xAf] at hv;cases hz:ts[i]? with
   | none=>rw[hz] at hv; cases hv
   | some z=>
    rw[hz] at hv;cases hv;have sA:=s2.trans a2;have hzk:=(S2.mem z).mp (xBa hz);have gz:=hg z (hN z hzk)
    have ef:(ts.take (i+1)).filter (λz=>(wto ms room z).isSome)=(ts.take i).filter (λz=>(wto ms room z).isSome)++(if (wto ms room z).isSome=true then [z] else []):=by
     rw[xBf,hz,xDz];congr 1;show List.filter _ [z]=_;rw[xCw,xGi]
    have lf:((ts.take i).filter λz=>(wto ms room z).isSome).length<=63:=xAn (xCe ..) (by rw[xBe]; omega);refine⟨_,rfl,v,dv,_,rfl,sA _ _ hi,dY _ _ _ (by decide),_,rfl,_,rfl,v,x,t,.str z,ms,room,wk,rfl,W.same sA,oU hT sA,R,hl,eU hW sA,.inl ⟨z,rfl,rF gz⟩,λ_ u' eu=>?_,λbad=>xAz (gz.symm.trans bad) (by decide)⟩;cases eu;cases ho:wto ms room z with
    | none=>
     intro H3 s3;refine⟨rfl,_,rfl,fX ⟨_,rfl,?_,a2.trans s3⟩⟩;rw[ef,ho]
     simpa using s3 _ _ a1
    | some ss=>
     intro l3 H3 s3 n3 e3;refine⟨rfl,_,rfl,gX ⟨_,rfl,_,s3 _ _ a1,bO (by rw[xAa]; omega),_,rfl,?_,λb o e=>?_⟩⟩
     ·rw[aE,ef,ho,xAm];rfl
     ·rw[aL (aI e hD)];exact s3 _ _ (a2 b o e)
  ·rintro σ' H' ⟨v0,rfl,a1,a2⟩;rw[xAa,xAx] at a1;exact q D _ H' (s2.trans a2) (s2.free hD) a1 (S2.filter _)
def iI:List (List Str)->List (List Str)->List (List Str)
 | rs,[]=>rs
 | rs,r::fs=>iI (if r∈rs then rs else rs++[r]) fs
def gM (F:List Str->List (List Str)):Nat->List (List Str)->Nat->List (List Str)
 | 0,rs,_=>rs
 | n+1,rs,i=>if i<rs.length/\rs.length<=60 then gM F n (iI rs (F (rs.getD i []))) (i+1) else rs
theorem rH {F:List Str->List (List Str)}{n i:Nat}{rs:xLL}(h:¬ (i<rs.length/\rs.length<=60)):gM F n rs i=rs:=by
 cases n with
 | zero=>rfl
 | succ n=>unfold gM; rw[xAt h]
theorem aEz {F:List Str->List (List Str)}{i:Nat}{rs:xLL}{r:List Str}(h1:rs[i]?=some r)(h2:rs.length<=60):gM F (61-i) rs i=gM F (61-(i+1)) (iI rs (F r)) (i+1):=by
 have hi:=(xAd.mp h1).1;rw[show 61-i=(61-(i+1))+1 by omega];show (if _ then _ else _)=_
 rw[xAu ⟨hi,h2⟩,xBl,h1];rfl
theorem rJ:∀ {fs rs:xLL}{r:List Str},iI rs (fs++[r])=if r∈iI rs fs then iI rs fs else iI rs fs++[r]
 | [],_,_=>rfl
 | _::fs,_,_=>rJ (fs:=fs)
theorem uQ:∀ {fs rs:xLL},(iI rs fs).length<=rs.length+fs.length
 | [],_=>xAl _
 | r::fs,rs=>by
  refine xAn (uQ (fs:=fs)) ?_;rw[xBm]
  by_cases h:r∈rs
  ·rw[xAu h]; omega
  ·rw[xAt h,xAr,xGe]; omega
theorem pZ:∀ {fs rs:xLL}{r:List Str},r∈iI rs fs->r∈rs\/r∈fs
 | [],_,_,h=>.inl h
 | x::fs,rs,r,h=>by
  rcases pZ (fs:=fs) h with h | h
  ·by_cases q:x∈rs
   ·rw[xAu q] at h; exact .inl h
   ·rw[xAt q] at h;rcases xBy.mp h with h | h
    ·exact .inl h
    ·exact .inr (by rw[xAi.mp h]; exact xBk ..)
  ·exact .inr (xBg _ h)
structure uR (H:Hp)(l:Addr)(fs:List (Str×List Str)):Prop where
 ex:∃ ts:List Addr,H l=some (.lst (ts.map V.ref))/\ts.length=fs.length/\∀ (i:Nat) (t:Addr) (p:Str×List Str),ts[i]?=some t->fs[i]?=some p->∃ u,H t=some (.tup [.str p.1,.ref u])/\H u=some (.tup (p.2.map V.str))
theorem uR.same {H H':Hp}{l:Addr}{fs:List (Str×List Str)}(M:uR H l fs)(s:aP H H'):uR H' l fs:=by
 obtain⟨qs,h0,h1,h2⟩:=M.ex;exact⟨qs,s _ _ h0,h1,λi q m a b=>let ⟨u,x,y⟩:=h2 i q m a b; ⟨u,s _ _ x,s _ _ y⟩⟩
def aMi (H:Hp)(fs:List (Str×List Str))(Q:VK):Prop:=∀ (l:Addr) H',aP H H'->H l=none->uR H' l fs->Q (.ref l) H'
def dH (ms:List MW)(ts:List Str)(room:List Str):List (Str×List Str):=ts.map λz=>(z,(wto ms room z).getD [])
def jX (ms:List MW)(S:List Str)(room:List Str):List Str:=S.filter λz=>(wto ms room z).isSome
theorem aEs {ms:List MW}{room:List Str}:∀ (S:List Str),(dH ms (jX ms S room) room).map (·.2)=S.filterMap (wto ms room)
 | []=>rfl
 | z::S=>by
  have ih:=aEs (ms:=ms) (room:=room) S;unfold jX dH at ih ⊢;cases h:wto ms room z with
  | none=>rw[List.filter_cons_of_neg (by rw[h]; simp),xIc h]; exact ih
  | some r=>rw[List.filter_cons_of_pos (by rw[h]; rfl),xIb h,xCa,xCa,ih,h]; rfl
theorem aHv {ms:List MW}{room:List Str}{z:Str}(h:(wto ms room z).isSome=true):z∈wkn ms:=by
 unfold wto at h
 by_cases q:z∈wkn ms
 ·exact q
 ·rw[xAt q] at h; cases h
inductive sH (K:xAb)(C CM CW:Addr)(vs:List V)(H:Hp)(Q:VK)(E:XK):Prop
 | mk (v x t:Addr)(ms:List MW)(room S:List Str)(wk:List (Key×V))(h0_:vs=[.ref v,.ref t])(h1_:Wv CM CW H v x ms)(h2_:H t=some (.tup (room.map V.str)))(h3_:ROk ms room)(h4_:1<=ms.length/\ms.length<=100)(h5_:WAt C H x wk)(h6_:∀ z∈wkn ms,z∈S)(h7_:S.length<64)(h8_:∀ z∈S,cY wk (.str z)=true)
  (h9_:xBp S=true)(h10_:S.Nodup)(h11_:aMi H (dH ms (jX ms S room) room) Q)
theorem aVv:aR ["self","room"] ["self","room"] (aB aDq):=xfs
theorem aJp {f fA fT C CM CW cD:Addr}{fd fdA fdT:FuncData}(F:Fun K "ways" "Woven.ways" aDq f fd)(WC:uS K CW)
  (GA:aQ P w K mg base CX0 5 fA fdA ["self","room"] (aPg K C CM CW))(bA:aX K fdA ["self","room"] [])(mA:eE K CW "at" fA)
  (GT:aQ P w K mg base (CXE P w) 4 fT fdT ["self","room","deed"] (aDv K C CM CW cD))(bT:aX K fdT ["self","room","deed"] [])(mT:eE K CW "to" fT) :
  aQ P w K mg base CX0 6 f fd ["self","room"] (sH K C CM CW):=by
 refine F.ok aVv (λvs H Q E h=>?_) (λcdv A outer s H vs Q E hr h=>?_)
 ·obtain⟨v,x,t,ms,room,S,wk,rfl,_⟩:=h;rfl
 ·obtain⟨v,x,t,ms,room,S,wk,rfl,W,hT,R,hl,hW,hN,h64,hg,so,nd,q⟩:=h
  refine⟨_,aM (aU (eN (N':=ndw) (nown:=1) (js:=[0,1]) rfl
     xbs (cJ (aB aDq) ["self","room"] rfl rfl (by decide +kernel))
     ⟨λ_ _ _ _=>aS (i:=0) (show List.Nodup ndw by decide +kernel) rfl (xAy rfl) (.inr rfl),λ_ _ _ _=>eV,
      λ_ _ _ _=>dL (pac (pv 0) (pac (cS (pv 1) WC.cl mT GT (hr.mono (by decide)) bT .nil fV (pac (pv 2) (pac (pv 0) aF))) aF))⟩
     (cU (cS (pv 0) WC.cl mA GA hr bA .nil bZ (pac (pv 1) aF))))),?_⟩
  obtain⟨dv,lm,lk,kn,hi,M,hk,hkn⟩:=id W;refine⟨_,rfl,v,dv,_,rfl,hi,dY _ _ _ (by decide),_,rfl,v,x,t,ms,room,S,wk,rfl,W,SqT.of hT,R,hl,hW,hN,h64,hg,λl ts H2 s2 n2 g2 S2=>⟨l,rfl,⟨_,SqL.of g2⟩,λD hD=>?_⟩⟩;have ets:ts=jX ms S room:=S2.one (q:=λz=>z∈S/\(wto ms room z).isSome=true) ⟨nY so,nd.filter _,λz=>xBx⟩ λz=>⟨λh=>⟨hN z h.1,h.2⟩,λh=>⟨aHv h.2,h.2⟩⟩;rw[<- ets] at q;have lts:ts.length<64:=xCc (by rw[ets]; exact xCe ..) h64;refine hV (xs:=ts.map V.str) (λi σ' H'=>∃ v0,σ'=[v0,some (.ref v),some (.ref t)]/\uR H' D (dH ms (ts.take i) room)/\aP H2 H') ?_ ?_ ?_ ?_
  ·exact⟨none,rfl,⟨[],aE,rfl,λi t p z=>nomatch z⟩,smu hD⟩
  ·rintro i σ' H' _ ⟨v0,rfl,a1,a2⟩;exact SqL.of (a2 _ _ g2)
  ·rintro i u σ' H' hv ⟨v0,rfl,a1,a2⟩;rw[xAf] at hv;cases hz:ts[i]? with
   | none=>rw[hz] at hv; cases hv
   | some z=>
    rw[hz] at hv;cases hv;have sA:=s2.trans a2;have hzk:=(S2.mem z).mp (xBa hz);have gz:=hg z (hN z hzk.1);refine⟨_,rfl,_,rfl,v,dv,_,rfl,sA _ _ hi,dY _ _ _ (by decide),_,rfl,_,rfl,v,x,t,.str z,ms,room,wk,rfl,W.same sA,SqT.of (sA _ _ hT),R,hl,eU hW sA,.inl ⟨z,rfl,rF gz⟩,λ_ u' eu=>?_,λbad=>xAz (gz.symm.trans bad) (by decide)⟩;cases eu;cases ho:wto ms room z with
    | none=>rw[ho] at hzk; cases hzk.2
    | some ss=>
     intro l3 H3 s3 n3 e3;refine⟨by show 2<=sizeLine; decide,λtt htt=>?_⟩;have s4:=s3.trans (smu (o:=.tup [.str z,.ref l3]) htt);have e3':=smu (o:=.tup [.str z,.ref l3]) htt _ _ e3;have eT:(upd H3 tt (.tup [.str z,.ref l3])) tt=some (.tup [.str z,.ref l3]):=aE;generalize upd H3 tt (.tup [.str z,.ref l3])=H4 at s4 e3' eT ⊢;obtain⟨us,b0,b1,b2⟩:=(a1.same s4).ex;have ew:dH ms (ts.take (i+1)) room=dH ms (ts.take i) room++[(z,ss)]:=by unfold dH; rw[xBf,hz,xAm,Option.toList_some,List.map_singleton,ho]; rfl
     have lw:(dH ms (ts.take i) room).length<=63:=by unfold dH; rw[xAa,xBe]; omega
     refine⟨_,b0,bO (by rw[xAa]; omega),_,rfl,⟨us++[tt],by rw[aE,xAm]; rfl,by rw[ew,xAr,xAr,b1]; rfl,λj y p hy hp=>?_⟩,λb o e=>?_⟩
     ·have nt:∀ {b:Addr}{xs:List V},H4 b=some (.tup xs)->(upd H4 D (.lst (us.map V.ref++[.ref tt]))) b=some (.tup xs):=λ{b xs} e=>by
       rw[aL (λz=>by rw[z,b0] at e; cases e)];exact e
      rw[ew] at hp
      by_cases hj:j<us.length
      ·rw[xBz hj] at hy;rw[xBz (by omega)] at hp;obtain⟨u,k1,k2⟩:=b2 j y p hy hp;exact⟨u,nt k1,nt k2⟩
      ·have hl':j=us.length:=by
        have:=(xAd.mp hy).1
        rw[xAr] at this;simp only[List.length_cons,List.length_nil] at this;omega
       subst hl';rw[xCf (xAl _),xFj] at hy;rw[b1,xCf (xAl _),xFj] at hp;cases hy;cases hp;exact⟨l3,nt eT,nt e3'⟩
     ·rw[aL (aI e hD)];exact s4 _ _ (a2 b o e)
  ·rintro σ' H' ⟨v0,rfl,a1,a2⟩;rw[xAa,xAx] at a1;exact q D H' (s2.trans a2) (s2.free hD) a1
inductive yM (cT:Addr)(df:Addr)(spD:Sp)(vs:List V)(H:Hp)(Q:VK)(E:XK):Prop
 | mk (t:Addr)(b:List Str)(Fp:List Str->List (Str×List Str))(Ok:List Str->Prop)(h0_:vs=[.ref t,.ref df,.int 60])(h1_:H t=some (.tup (b.map V.str)))(h2_:Ok b)(h3_:∀ r,Ok r->∀ p∈Fp r,Ok p.2)(h4_:∀ r,Ok r->(Fp r).length<=64)
  (h5_:∀ (r:List Str) (t':Addr) H' Q',aP H H'->Ok r->H' t'=some (.tup (r.map V.str))->aMi H' (Fp r) Q'->spD [.ref t'] H' Q' E)
  (h6_:(gM (λr=>(Fp r).map (·.2)) 61 [b] 0).length<=60->∀ (d:Addr) (kvs:List (List Key×V)) H',aP H H'->H d=none->H' d=some (.dT kvs)->kvs.map (·.1)=(gM (λr=>(Fp r).map (·.2)) 61 [b] 0).map (λr=>r.map Sum.inr)->Q (.ref d) H')
  (h7_:60<(gM (λr=>(Fp r).map (·.2)) 61 [b] 0).length->∀ H',aP H H'->E (.ref cT) none H')
inductive yQ (cT:Addr)(df:Addr)(spD:Sp)(vs:List V)(H:Hp)(Q:VK)(E:XK):Prop
 | mk (t:Addr)(b:List Str)(Fp:List Str->List (Str×List Str))(Ok:List Str->Prop)(h0_:vs=[.ref t,.ref df,.int 60])(h1_:H t=some (.tup (b.map V.str)))(h2_:Ok b)(h3_:∀ r,Ok r->∀ p∈Fp r,Ok p.2)(h4_:∀ r,Ok r->(Fp r).length<=64)
  (h5_:∀ (r:List Str) (t':Addr) H' Q',aP H H'->Ok r->H' t'=some (.tup (r.map V.str))->aMi H' (Fp r) Q'->spD [.ref t'] H' Q' E)
  (h6_:(gM (λr=>(Fp r).map (·.2)) 61 [b] 0).length<=60->∀ (l:Addr) (bs:List Addr) H',aP H H'->H l=none->H' l=some (.lst (bs.map V.ref))->nW H' bs (gM (λr=>(Fp r).map (·.2)) 61 [b] 0)->Q (.ref l) H')
  (h7_:60<(gM (λr=>(Fp r).map (·.2)) 61 [b] 0).length->∀ H',aP H H'->E (.ref cT) none H')
structure RT (H H':Hp)(d R:Addr)(rs:xLL)(n:Nat):Prop where
 ex:∃ (kvs:List (List Key×V)) (bs:List Addr),H' d=some (.dT kvs)/\kvs.map (·.1)=rs.map (λr=>r.map Sum.inr)/\H' R=some (.lst (bs.map V.ref))/\nW H' bs rs/\∀ kv∈kvs,∃ (l:Addr) (row:List Str),kv.2=.ref l/\H' l=some (.lst (row.map V.str))/\row.length<=n/\l≠R
 sm:aP H H'
 nd:H d=none
 nR:H R=none
theorem xS:∀ {ss ts:List Str},ss.map (Sum.inr:Str->Key)=ts.map Sum.inr->ss=ts
 | [],[],_=>rfl
 | [],_::_,h=>by cases h
 | _::_,[],h=>by cases h
 | a::ss,b::ts,h=>by
  have h':=xIk h;rw[Sum.inr.inj h'.1,xS h'.2]
theorem xQ {kvs:List (List Key×V)}{rs:xLL}(h:kvs.map (·.1)=rs.map (λr=>r.map Sum.inr))(r:List Str):(dN kvs (r.map Sum.inr)).isSome=decide (r∈rs):=by
 rw[<- gY,xDc,xDt,xDx];constructor
 ·rintro⟨x,hx,e⟩
  have:x.1∈kvs.map (·.1):=xAp.mpr ⟨x,hx,rfl⟩
  rw[h,xAg e] at this;obtain⟨y,hy,ey⟩:=xAp.mp this;rw[<- xS ey];exact hy
 ·intro hr
  have:r.map Sum.inr∈kvs.map (·.1):=by rw[h]; exact xAp.mpr ⟨r,hr,rfl⟩
  obtain⟨x,hx,e⟩:=xAp.mp this;exact⟨x,hx,xAk e⟩
theorem aEh {kvs:List (List Key×V)}{k:List Key}{v:V}(h:(dN kvs k).isSome=false):gN kvs k v=kvs++[(k,v)]:=by
 unfold gN;rw[gY,h];rfl
theorem jG (r:List Str):(r.map Sum.inr).map kV=r.map V.str:=by rw[xCy]; rfl
theorem aNh {kvs:List (List Key×V)}{rs:xLL}{Pv:V->Prop}(h:kvs.map (·.1)=rs.map (λr=>r.map Sum.inr))(h5:∀ kv∈kvs,Pv kv.2){r:List Str}(hr:r∈rs):∃ v,dN kvs (r.map Sum.inr)=some v/\Pv v:=by
 have e:=xQ h r;rw[xAk hr] at e;obtain⟨v,hv⟩:=xCi.mp e;refine⟨v,hv,?_⟩;unfold dN at hv;obtain⟨kv,hf,rfl⟩:=xDv.mp hv;exact h5 kv (xCt hf)
theorem kH:∀ {fs rs:xLL}{r:List Str},r∈rs->r∈iI rs fs
 | [],_,_,h=>h
 | x::fs,rs,r,h=>kH (fs:=fs) (by
  by_cases q:x∈rs
  ·rw[xAu q]; exact h
  ·rw[xAt q]; exact xDj _ h)
theorem sR:∀ {fs rs:xLL},rs.length<=(iI rs fs).length
 | [],_=>xAl _
 | x::fs,rs=>xAn (by
  by_cases q:x∈rs
  ·rw[xAu q]; exact xAl _
  ·rw[xAt q,xAr]; omega) (sR (fs:=fs))
theorem RT.same {H H' H2:Hp}{d R:Addr}{rs:xLL}{n:Nat}(h:RT H H' d R rs n)(s:aP H' H2):RT H H2 d R rs n:=by
 obtain⟨⟨kvs,bs,e1,e2,e3,e4,e5⟩,sm,nd,nR⟩:=h;exact⟨⟨kvs,bs,s _ _ e1,e2,s _ _ e3,e4.same λb xs e=>s _ _ e,λkv hk=>let ⟨l,row,k1,k2,k3,k4⟩:=e5 kv hk; ⟨l,row,k1,s _ _ k2,k3,k4⟩⟩,sm.trans s,nd,nR⟩
theorem RT.more {H H':Hp}{d R:Addr}{rs:xLL}{n m:Nat}(h:RT H H' d R rs n)(hm:n<=m):RT H H' d R rs m:=by
 obtain⟨⟨kvs,bs,e1,e2,e3,e4,e5⟩,sm,nd,nR⟩:=h;exact⟨⟨kvs,bs,e1,e2,e3,e4,λkv hk=>let ⟨l,row,k1,k2,k3,k4⟩:=e5 kv hk; ⟨l,row,k1,k2,xAn k3 hm,k4⟩⟩,sm,nd,nR⟩
abbrev NRT:List Str:=["begin","doors","most","rows","rooms","place","room","deed","far"]
theorem yT:aR NRT ["begin","doors","most"] (aB wW):=xfs
theorem aGd {f cT:Addr}{fd:FuncData}{kd:Nat}(F:Fun K "rows_to" "rows_to" wW f fd)(T:Txt K mg)(mTM:mg "TooMany" = some (.ref cT))(xTM:nA K cT) :
  uU P w K mg base (kd+1) f fd ["begin","doors","most"] (SpH P w K mg base kd (yM cT)):=by
 refine okS F yT (λo s vs H Q E h=>?_) (λcdv A outer s H vs Q E hr h D=>?_)
 ·obtain⟨df,spD,_,t,b,Fp,Ok,rfl,_⟩:=h;rfl
 ·obtain⟨df,spD,hd,t,b,Fp,Ok,rfl,hT,hok,h3,h4,h5,q6,q7⟩:=h;have hu:=jH hr
  refine⟨_,aJ (bJ (i:=3) yT.nd rfl (xAy rfl) (aJj (xHd hu) (pv 0) (cA aF)))
   (aJ (bJ (i:=4) yT.nd rfl (xAy rfl) (cA (pac (pv 0) aF)))
   (aJ (bJ (i:=5) yT.nd rfl (xAy rfl) aN)
   (aJ (zA PassesOwn.leaving (aV zM (pv 5) (cB cL (by rfl) T.len Bo.len (pac (pv 4) aF)) (bC _))
    (aJ (bJ (i:=6) yT.nd rfl (xAy rfl) (cG dG (pv 4) (pv 5) (λ_ _=>rfl)))
    (aJ (dZ PassesOwn.leaving rfl (cU (aFs (i:=1) (sp:=spD) (E:=E) rfl (by rfl) (D.passes λ_ _ _ z=>z) hr (λ_ _ _ _ I=>hd.later (aPw I)) (pv 6))) (eO rfl (aY (aS (i:=7) yT.nd rfl (xAy rfl)) (aY (aS (i:=8) yT.nd rfl (xAy rfl)) dO)))
     (aM (cK (qN (qQ hu (pv 8) (pv 3)))
      (aJ (jR hu (pv 3) (pv 8) (bV tX (iQ hu (pv 3) (pv 6) (λ_ _=>rfl)) (cA (pac (pv 7) aF))) rfl)
      (aM (dA (lW xBq xDn xDm iY (pv 4) (pac (pv 8) aF))))) bS)))
    (aJ (cK (aV pJ (cB cL (by rfl) T.len Bo.len (pac (pv 4) aF)) (pv 2) (bC _)) (aM (eZ D rfl (by rfl) mTM xTM (pac (zH aO (xF (pv 2)) aO) aF))) bS)
    (aM (bJ (i:=5) yT.nd rfl (xAy rfl) (bV eK (pv 5) aN)))))))
   (aM (aU (pv 3)))))),?_⟩
  intro d hd0;refine⟨_,rfl,by show 0<=sizeLine; decide,λl0 hl0=>?_⟩;have dl0:d≠l0:=λz=>by rw[<- z,aE] at hl0; cases hl0
  have k1:aP H (upd (upd H d (.dT [])) l0 (.lst [])):=(smu hd0).trans (smu hl0);have nl0:H l0=none:=(smu hd0).free hl0;have ed:(upd (upd H d (.dT [])) l0 (.lst [])) d=some (.dT []):=by rw[aL dl0,aE]
  have el:(upd (upd H d (.dT [])) l0 (.lst [])) l0=some (.lst []):=aE;generalize upd (upd H d (.dT [])) l0 (.lst [])=H1 at k1 ed el ⊢;refine⟨ed,t,b.map Sum.inr,rfl,by rw[jG]; exact k1 _ _ hT,?_⟩;have k2:aP H (upd H1 d (.dT [(b.map Sum.inr,.ref l0)])):=λc o e=>by rw[aL (aI e hd0)]; exact k1 _ _ e
  have ed2:(upd H1 d (.dT [(b.map Sum.inr,.ref l0)])) d=some (.dT [(b.map Sum.inr,.ref l0)]):=aE;have el2:(upd H1 d (.dT [(b.map Sum.inr,.ref l0)])) l0=some (.lst []):=by rw[aL (Ne.symm dl0)]; exact el
  generalize upd H1 d (.dT [(b.map Sum.inr,.ref l0)])=H2 at k2 ed2 el2 ⊢;refine⟨_,rfl,by show 1<=sizeLine; decide,λR hR=>?_⟩;have k3:aP H2 (upd H2 R (.lst [.ref t])):=smu hR;have eR:(upd H2 R (.lst [.ref t])) R=some (.lst ([t].map V.ref)):=aE;have nR:H R=none:=k2.free hR;have lR:l0≠R:=λz=>by rw[z,hR] at el2; cases el2
  generalize upd H2 R (.lst [.ref t])=H3 at k3 eR ⊢;have rt0:RT H H3 d R [b] 0:=⟨⟨_,[t],k3 _ _ ed2,rfl,eR,.cons ((k2.trans k3) _ _ hT) .nil,λkv hk=>⟨l0,[],by rw[xAi.mp hk],k3 _ _ el2,xAl _,lR⟩⟩,k2.trans k3,hd0,nR⟩;clear k1 ed el k2 ed2 el2 k3 eR hR hl0 nl0;generalize hF:(λr=>(Fp r).map (·.2))=Fr at *;have hFr:∀ r,Fr r=(Fp r).map (·.2):=λr=>by rw[<- hF]
  clear hF
  refine⟨λm σ H'=>∃ (i:Nat) (rs:xLL) (x6 x7 x8:Option V),m=61-i/\σ=[some (.ref t),some (.ref df),some (.int 60),some (.ref d),some (.ref R),some (.int i),x6,x7,x8]/\RT H H' d R rs (64*i)/\i<=rs.length/\rs.length<=60/\(∀ r∈rs,Ok r)/\gM Fr 61 [b] 0=gM Fr (61-i) rs i,
   ⟨61,0,[b],none,none,none,rfl,rfl,rt0,xBr _,(by show 1<=60; decide),λr hr=>by rw[xAi.mp hr]; exact hok,rfl⟩,?_⟩
  rintro m σ H' ⟨i,rs,x6,x7,x8,rfl,rfl,rt,hi,h60,hOk,hc⟩;obtain⟨⟨kvs,bs,e1,e2,e3,e4,e5⟩,sm,nd,_⟩:=id rt;have lbs:bs.length=rs.length:=Paired.length e4;refine⟨_,rfl,_,rfl,R,_,rfl,.inl (SqL.of e3),_,_,rfl,rfl,_,rfl,eI (λhlt=>?_) (λhge=>?_)⟩
  rotate_left
  ·have hin:¬ i<rs.length:=λz=>hge (xAk (by rw[xAa]; omega));rw[rH (λz=>hin z.1)] at hc;rw[hc] at q6;exact⟨_,rfl,q6 h60 d kvs H' sm nd e1 e2⟩
  ·have hil:i<rs.length:=by have:=xAg hlt; rw[xAa] at this; omega
   have hb:=xAe (l:=bs) (i:=i) (by omega);generalize bs[i]'(by omega)=tr at hb;obtain⟨r,hrs,htr⟩:=e4.get hb;have hrm:r∈rs:=xBa hrs;have okr:=hOk r hrm;have hc':=hc.trans (aEz hrs h60);rw[hFr] at hc';have h4r:=h4 r okr;refine⟨_,λ_ _ h=>h,?_⟩;refine⟨_,rfl,_,rfl,R,_,_,.ref tr,rfl,rfl,SqL.of e3,iK (by rw[xAf,hb]; rfl),?_⟩;refine⟨rfl,_,rfl,h5 r tr H' _ sm okr htr λl H2 s2 n2 W=>?_⟩;obtain⟨ts,w0,w1,w2⟩:=W.ex;have ld:l≠d:=λz=>by rw[z,e1] at n2; cases n2
   have lR:l≠R:=λz=>by rw[z,e3] at n2; cases n2
   have d2:=s2 _ _ e1;have R2:=s2 _ _ e3;have t2:=s2 _ _ htr;refine⟨l,rfl,⟨_,SqL.of w0⟩,?_⟩;refine dE (xs:=ts.map V.ref) (λj σ H3=>∃ x7 x8:Option V,σ=[some (.ref t),some (.ref df),some (.int 60),some (.ref d),some (.ref R),some (.int i),some (.ref tr),x7,x8]/\RT H H3 d R (iI rs (((Fp r).take j).map (·.2))) (64*i+j)/\∀ b o,H2 b=some o->b≠d->b≠R->H3 b=some o) ?_ ?_ ?_ ?_
   ·exact⟨_,_,rfl,rt.same s2,λb o e _ _=>e⟩
   ·rintro j σ H3 _ ⟨x7,x8,rfl,rt3,a2⟩;exact SqL.of (a2 _ _ w0 ld lR)
   ·rintro j v σ H3 hv ⟨x7,x8,rfl,rt3,a2⟩;rw[xAf] at hv;cases hy:ts[j]? with
    | none=>rw[hy] at hv; cases hv
    | some y=>
     rw[hy] at hv;cases hv;have hj:j<(Fp r).length:=by rw[<- w1]; exact (xAd.mp hy).1
     have hz:=xAe hj;generalize (Fp r)[j]=z at hz;obtain⟨u,w3,w4⟩:=w2 j y z hy hz;have w3':=a2 _ _ w3 (gQ w3 d2 (λz=>nomatch z)) (gQ w3 R2 (λz=>nomatch z));have w4':=a2 _ _ w4 (gQ w4 d2 (λz=>nomatch z)) (gQ w4 R2 (λz=>nomatch z));have t3:=a2 _ _ t2 (gQ t2 d2 (λz=>nomatch z)) (gQ t2 R2 (λz=>nomatch z));have etk:((Fp r).take (j+1)).map (·.2)=((Fp r).take j).map (·.2)++[z.2]:=by rw[xBf,hz,xAm]; rfl
     have hr3:r∈iI rs (((Fp r).take j).map (·.2)):=kH hrm;have rlen:(iI rs (((Fp r).take j).map (·.2))).length<=200:=by have:=uQ (rs:=rs) (fs:=((Fp r).take j).map (·.2)); rw[xAa,xBe] at this; omega
     rw[etk,rJ];generalize iI rs (((Fp r).take j).map (·.2))=rs3 at rt3 hr3 rlen;obtain⟨⟨kvs3,bs3,f1,f2,f3,f4,f5⟩,sm3,_,nR3⟩:=id rt3;have kl:kvs3.length=rs3.length:=by have:=congrArg List.length f2; rw[xAa,xAa] at this; exact this
     have bl:bs3.length=rs3.length:=Paired.length f4;refine⟨y,_,rfl,SqT.of w3',rfl,_,_,rfl,_,_,rfl,rfl,?_⟩;refine⟨_,rfl,_,rfl,d,_,rfl,gK.t (k:=z.2.map Sum.inr) f1 (by rw[jG]; exact w4'),_,rfl,?_⟩;rw[xQ f2]
     by_cases hm:z.2∈rs3
     ·rw[xAk hm];refine fX ⟨_,_,rfl,?_,a2⟩;rw[xAu hm];exact rt3.more (by omega)
     ·rw[xBb hm,xAt hm];obtain⟨v,hv,lr,row,rfl,hrow,hle,hne⟩:=aNh (Pv:=λv=>∃ (l:Addr) (row:List Str),v=.ref l/\H3 l=some (.lst (row.map V.str))/\row.length<=64*i+j/\l≠R) f2 f5 hr3;have g1:=gK.t (k:=r.map Sum.inr) f1 (b:=tr) (by rw[jG]; exact t3);rw[hv] at g1;refine gX ⟨_,rfl,_,rfl,d,_,rfl,g1,_,rfl,by show 1<=sizeLine; decide,λl1 hl1=>⟨lr,l1,_,_,rfl,rfl,smu hl1 _ _ hrow,aE,iL (by rw[xAa]; simp only[List.length_cons,List.length_nil]; omega),λl2 hl2=>?_⟩⟩;have s5:aP H3 (upd (upd H3 l1 (.lst [.str z.1])) l2 (.lst (row.map V.str++[.str z.1]))):=(smu hl1).trans (smu hl2);have e5l:(upd (upd H3 l1 (.lst [.str z.1])) l2 (.lst (row.map V.str++[.str z.1]))) l2=some (.lst ((row++[z.1]).map V.str)):=by rw[aE,xAm]; rfl
      have nl2:H3 l2=none:=(smu hl1).free hl2;generalize upd (upd H3 l1 (.lst [.str z.1])) l2 (.lst (row.map V.str++[.str z.1]))=H5 at s5 e5l ⊢;have l2d:l2≠d:=λz=>by rw[z,f1] at nl2; cases nl2
      have l2R:l2≠R:=λz=>by rw[z,f3] at nl2; cases nl2
      have Rd:R≠d:=gQ f3 f1 (λz=>nomatch z);refine⟨_,rfl,_,rfl,d,_,rfl,qB.t (k:=z.2.map Sum.inr) (s5 _ _ f1) (by rw[jG]; exact s5 _ _ w4') (bO (by omega)),?_⟩;rw[aEh (by rw[xQ f2,xBb hm])];have h6R:(upd H5 d (.dT (kvs3++[(z.2.map Sum.inr,.ref l2)]))) R=some (.lst (bs3.map V.ref)):=by rw[aL Rd]; exact s5 _ _ f3
      refine⟨_,rfl,.inl ⟨rfl,_,SqL.of h6R⟩,_,rfl,R,_,_,rfl,rfl,h6R,bO (by rw[xAa]; omega),?_⟩;have k7:∀ b o,H5 b=some o->b≠d->b≠R->(upd (upd H5 d (.dT (kvs3++[(z.2.map Sum.inr,.ref l2)]))) R (.lst (bs3.map V.ref++[.ref u]))) b=some o:=λb o e n1 n2=>by rw[aL n2,aL n1]; exact e
      have d7:(upd (upd H5 d (.dT (kvs3++[(z.2.map Sum.inr,.ref l2)]))) R (.lst (bs3.map V.ref++[.ref u]))) d=some (.dT (kvs3++[(z.2.map Sum.inr,.ref l2)])):=by rw[aL (Ne.symm Rd),aE]
      have R7:(upd (upd H5 d (.dT (kvs3++[(z.2.map Sum.inr,.ref l2)]))) R (.lst (bs3.map V.ref++[.ref u]))) R=some (.lst ((bs3++[u]).map V.ref)):=by rw[aE,xAm]; rfl
      generalize upd (upd H5 d (.dT (kvs3++[(z.2.map Sum.inr,.ref l2)]))) R (.lst (bs3.map V.ref++[.ref u]))=H7 at k7 d7 R7 ⊢;have tk:∀ b xs,H3 b=some (.tup xs)->H7 b=some (.tup xs):=λb xs e=>k7 _ _ (s5 _ _ e) (gQ e f1 (λz=>nomatch z)) (gQ e f3 (λz=>nomatch z));refine⟨_,_,rfl,⟨⟨_,bs3++[u],d7,by rw[xAm,xAm,f2]; rfl,R7,nW.snoc (f4.same tk) (tk _ _ w4'),λkv hk=>?_⟩,λb o e=>k7 _ _ (s5 _ _ (sm3 _ _ e)) (aI e nd) (aI e nR3),nd,nR3⟩,λb o e n1 n2=>k7 _ _ (s5 _ _ (a2 _ _ e n1 n2)) n1 n2⟩;rcases xBy.mp hk with hk | hk
      ·obtain⟨l',row',q1,q2,q3,q4⟩:=f5 kv hk;exact⟨l',row',q1,k7 _ _ (s5 _ _ q2) (gQ q2 f1 (λz=>nomatch z)) q4,by omega,q4⟩
      ·rw[xAi.mp hk];exact⟨l2,row++[z.1],rfl,k7 _ _ e5l l2d l2R,by rw[xAr,xGe]; omega,l2R⟩
   ·rintro σ H3 ⟨x7,x8,rfl,rt3,a2⟩;rw[xAa,w1,xAx] at rt3;generalize hrs3:iI rs ((Fp r).map (·.2))=rs3 at rt3 hc';have rt4:RT H H3 d R rs3 (64*(i+1)):=rt3.more (by omega);obtain⟨⟨kvs3,bs3,f1,f2,f3,f4,f5⟩,sm3,_,nR3⟩:=id rt3;have bl:bs3.length=rs3.length:=Paired.length f4;refine⟨_,rfl,R,_,rfl,.inl (SqL.of f3),_,rfl,_,_,rfl,rfl,_,rfl,eI (λhgt=>?_) (λhle=>?_)⟩
    ·have hgt':60<rs3.length:=by have:=xAg hgt; rw[xAa] at this; omega
     have hc2:gM Fr 61 [b] 0=rs3:=by rw[hc']; exact rH (λz=>xAz z.2 (by omega))
     rw[hc2] at q7;exact⟨_,rfl,by decide +kernel,_,rfl,60,rfl,by decide +kernel,_,rfl,by decide +kernel,_,rfl,by decide +kernel,by decide +kernel,by show 1<=sizeLine; decide,q7 hgt' H3 sm3⟩
    ·have hle':rs3.length<=60:=Nat.le_of_not_lt λz=>hle (xAk (by rw[xAa]; omega));refine⟨_,rfl,_,_,rfl,rfl,?_⟩;refine⟨61-(i+1),by omega,i+1,rs3,_,_,_,rfl,rfl,rt4,?_,hle',λr' hr'=>?_,hc'⟩
     ·have:rs.length<=rs3.length:=by rw[<- hrs3]; exact sR
      omega
     ·rw[<- hrs3] at hr';rcases pZ hr' with h | h
      ·exact hOk r' h
      ·obtain⟨p,hp,rfl⟩:=xAp.mp h;exact h3 r okr p hp
theorem zK {ms:List MW}{room:List Str}{y:Str}{i:Nat}{m:MW}{z:Str}(hm:ms[i]?=some m)(hz:room[i]?=some z):(parts ms room y)[i]?=some (gH m.ds m.kn z y):=by
 unfold parts;rw[List.getElem?_zipWith,hm,hz]
def off (H:Hp)(P:Addr):Hp:=λb=>if b=P then none else H b
theorem gP {H:Hp}{P b:Addr}{o:HO}(e:off H P b=some o):b≠P/\H b=some o:=by
 unfold off at e
 by_cases q:b=P
 ·rw[xAu q] at e; cases e
 ·rw[xAt q] at e; exact⟨q,e⟩
theorem oK {H:Hp}{P b:Addr}{o:HO}(n:b≠P)(e:H b=some o):off H P b=some o:=by
 unfold off;rw[xAt n];exact e
theorem tZ {H H':Hp}{P:Addr}(s:aP H H'):aP (off H P) (off H' P):=λ_ _ e=>let ⟨n,e'⟩:=gP e; oK n (s _ _ e')
theorem aKs {H:Hp}{P:Addr}:aP (off H P) H:=λ_ _ z=>(gP z).2
def Pl:HO->Prop
 | .tbl _=>False
 | .dT _=>False
 | _=>True
def NTb (H H':Hp):Prop:=∀ b o,H b=some o->Pl o->H' b=some o
section
variable {K:xAb}{H H':Hp}
theorem ntL {p:Addr}{xs:List V}(s:NTb H H')(h:SqL K H p xs):SqL K H' p xs:=by
 rcases h with (h | ⟨o,h⟩) | h
 ·exact .inl (.inl (s _ _ h trivial))
 ·exact .inl (.inr ⟨o,s _ _ h trivial⟩)
 ·exact .inr h
theorem ntD {d:Addr}{ds:List Dr}(s:NTb H H')(h:cQ H d ds):cQ H' d ds:=by
 obtain⟨ts,h1,h2,h3⟩:=h.ex;exact⟨ts,s _ _ h1 trivial,h2,λi t x a b=>s _ _ (h3 i t x a b) trivial⟩
theorem ntW {C p:Addr}{kvs:List (Key×V)}(s:NTb H H')(h:WAt C H p kvs):WAt C H' p kvs:=by
 obtain⟨dx,fs,dw,o,h0,h1,h2,h3⟩:=h;exact⟨dx,fs,dw,o,s _ _ h0 trivial,h1,h2,s _ _ h3 trivial⟩
theorem ntM {CM x dd:Addr}{b:Str}{es kn:List Str}{ds:List Dr}(s:NTb H H')(h:MM CM H x dd b es kn ds):MM CM H' x dd b es kn ds:=by
 obtain⟨dx,l,e,k,kvs,g,M⟩:=h;exact⟨dx,l,e,k,kvs,g,⟨s _ _ M.ins trivial,⟨s _ _ M.lead.dk trivial,M.lead.keys,M.lead.val,λz hz=>s _ _ (M.lead.dd z hz) trivial,M.lead.inj,M.lead.ne⟩,s _ _ M.ends trivial,s _ _ M.know trivial⟩⟩
theorem aXk {CM x p:Addr}{ms:List MW}(s:NTb H H')(h:nX CM H x p ms):nX CM H' x p ms:=by
 obtain⟨Xs,a0,a1,a2⟩:=h.ex;exact⟨Xs,s _ _ a0 trivial,a1,λi X m a b=>ntM s (a2 i X m a b)⟩
theorem ntV {CM CW v x:Addr}{ms:List MW}(s:NTb H H')(W:Wv CM CW H v x ms):Wv CM CW H' v x ms:=by
 obtain⟨dv,lm,lk,kn,h1,h2,h3,h4⟩:=W;exact⟨dv,lm,lk,kn,s _ _ h1 trivial,aXk s h2,s _ _ h3 trivial,h4⟩
end
def Tab (pos:Pos)(q:Str)(P:Addr)(H:Hp):Prop:=H P=some (.tbl #[])\/∃ c',H P=some (.tbl #[rawInt pos.line,rawInt pos.col,.ref c'])/\H c'=some (.ext (gU c' q))
section
variable {pos:Pos}{q:Str}{P:Addr}{H H':Hp}
theorem Tab.same (T:Tab pos q P H)(s:aP H H'):Tab pos q P H':=T.elim (λh=>.inl (s _ _ h)) λ⟨c',h1,h2⟩=>.inr ⟨c',s _ _ h1,s _ _ h2⟩
theorem Tab.tb (T:Tab pos q P H):∃ ps,H P=some (.tbl ps):=T.elim (λh=>⟨_,h⟩) λ⟨_,h,_⟩=>⟨_,h⟩
theorem aPq {d:Addr}{u:HO}(h:H d=some u)(hu:¬ Pl u){b:Addr}{o:HO}(e:H b=some o)(n:Pl o):b≠d:=λz=>by
 rw[z,h] at e;cases e;exact hu n
theorem lH (t:∃ ps,H P=some (.tbl ps))(s:aP (off H P) H'):NTb H H':=λb o e n=>s _ _ (oK (let ⟨_,h⟩:=t; aPq h (λz=>z) e n) e)
theorem aKt (T:Tab pos q P H')(s:aP (off H P) H'){l:Addr}(h:H' l=none):H l=none:=by
 cases e:H l with
 | none=>rfl
 | some o=>
  by_cases n:l=P
  ·obtain⟨ps,t⟩:=T.tb;rw[n,t] at h; cases h
  ·rw[s _ _ (oK n e)] at h; cases h
theorem Tab.made {c':Addr}{H1:Hp}(hc:H c'=none)(hn:c'≠P)(e:H1=upd (upd H P (.tbl (#[]++#[rawInt pos.line,rawInt pos.col,.ref c']))) c' (.ext (gU c' q))):aP (K35.off H P) H1/\Tab pos q P H1/\H1 c'=some (.ext (gU c' q)):=by
 refine⟨λb o z=>?_,.inr ⟨c',?_,?_⟩,?_⟩
 ·obtain⟨z1,z2⟩:=gP z;rw[e,aL (aI z2 hc),aL z1];exact z2
 ·rw[e,aL (Ne.symm hn),aE]
  first | done | rfl
 ·rw[e,aE]
 ·rw[e,aE]
theorem Tab.hand {R:Addr->Hp->Prop}(T:Tab pos q P H)(h:∀ c' H1,aP (K35.off H P) H1->Tab pos q P H1->H1 c'=some (.ext (gU c' q))->R c' H1)(hca:∀ c',codeAmong pos [rawInt pos.line,rawInt pos.col,.ref c']=some (.ref c'):=by intro; rfl):aMn P pos q R H:=by
 rcases id T with hP | ⟨c',hP,hc⟩
 ·exact .made #[] hP trivial rfl λc' H1 hc hn e=>let ⟨a,b,c⟩:=Tab.made hc hn e; h c' H1 a b c
 ·exact .hit _ c' hP ⟨⟩ (hca c') hc (h c' H aKs T hc)
end
theorem ROk.far {ms:List MW}{room r':List Str}{z:Str}(hN:∀ m∈ms,m.rs.all aW=true)(R:ROk ms room)(h:wto ms room z=some r'):ROk ms r':=by
 unfold wto at h
 by_cases q:z∈wkn ms
 ·rw[xAu q] at h;unfold aAw at h
  by_cases a:(parts ms room z).any (λo=>o.isNone)=true
  ·rw[xAu a] at h; cases h
  ·rw[xAt a] at h;cases h;refine⟨by rw[xAa]; unfold parts; rw[xFf,<- R.len,Nat.min_self],λi m u hm hu=>?_⟩;have hi:i<ms.length:=(xAd.mp hm).1;have hz0:=xAe (l:=room) (i:=i) (by rw[<- R.len]; exact hi);generalize room[i]'(by rw[<- R.len]; exact hi)=z0 at hz0;rw[xAf,zK hm hz0] at hu;cases g:gH m.ds m.kn z0 z with
   | none=>exact xAz (xDt.mpr ⟨none,xBa (by rw[zK hm hz0,g]),rfl⟩) a
   | some u'=>
    rw[g] at hu;cases hu;have hmem:u'∈m.rs:=uF (R.mem i m z0 hm hz0).2 g;exact⟨xBj.mp (hN m (xBa hm)) _ hmem,hmem⟩
 ·rw[xAt q] at h; cases h
theorem ROk.begin {ms:List MW}(hN:∀ m∈ms,m.rs.all aW=true):ROk ms (ms.map (·.b)):=by
 refine⟨by rw[xAa],λi m z hm hz=>?_⟩;rw[xAf,hm] at hz;cases hz
 have:m.b∈m.rs:=xDj _ (xBk ..)
 exact⟨xBj.mp (hN m (xBa hm)) _ this,this⟩
abbrev jF:Pos:=⟨230,37,230,65⟩
abbrev jE:Str:="Woven.rooms.<locals>."++"<lambda>"
abbrev bU (ms:List MW)(S:List Str):List (List Str):=gM (λr=>S.filterMap (wto ms r)) 61 [ms.map (·.b)] 0
inductive yJ (C CM CW cT Pr:Addr)(vs:List V)(H:Hp)(Q:VK)(E:XK):Prop
 | mk (v x:Addr)(ms:List MW)(S:List Str)(wk:List (Key×V))(h0_:vs=[.ref v])(h1_:Wv CM CW H v x ms)(h2_:1<=ms.length/\ms.length<=100)(h3_:∀ m∈ms,m.rs.all aW=true)(h4_:WAt C H x wk)(h5_:∀ z∈wkn ms,z∈S)(h6_:S.length<64)(h7_:∀ z∈S,cY wk (.str z)=true)
  (h8_:xBp S=true)(h9_:S.Nodup)(h10_:Tab jF jE Pr H)
  (h11_:(bU ms S).length<=60->∀ (l:Addr) (bs:List Addr) H',aP (off H Pr) H'->H l=none->Tab jF jE Pr H'->H' l=some (.lst (bs.map V.ref))->nW H' bs (bU ms S)->Q (.ref l) H')
  (h12_:60<(bU ms S).length->∀ H',aP (off H Pr) H'->Tab jF jE Pr H'->E (.ref cT) none H')
abbrev NCT:List Str:=["begin","doors","most"]
theorem aWy:aR NCT NCT (aB wZ):=xfs
theorem aGo {f fR cT:Addr}{fd fdR:FuncData}{kd:Nat}(F:Fun K "come_to" "come_to" wZ f fd)(T:Txt K mg)
  (GR:uU P w K mg base (kd+1) fR fdR NCT (SpH P w K mg base kd (yM cT)))(kR:keepIn K (.ref fR)=true)(bR:aX K fdR NCT [])(mR:mg "rows_to"=some (.ref fR)) :
  uU P w K mg base (kd+2) f fd NCT (SpH P w K mg base kd (yQ cT)):=by
 refine okS F aWy (λo s vs H Q E h=>?_) (λcdv A outer s H vs Q E hr h D=>?_)
 ·obtain⟨df,spD,_,t,b,Fp,Ok,rfl,_⟩:=h;rfl
 ·obtain⟨df,spD,hd,t,b,Fp,Ok,rfl,hT,hok,h3,h4,h5,q6,q7⟩:=h
  exact⟨_,aM (aU (iE (aDg rfl) (by rfl) T.list Bo.list (pac (aJm (spD:=spD) (E:=E) GR hr rfl mR kR bR (D.passes λ_ _ _ z=>z) (λ_ _ _ _ I=>hd.later (aPw I)) (pac (pv 0) (pac (pv 1) (pac (pv 2) aF)))) aF))),
   _,rfl,_,rfl,_,rfl,t,b,Fp,Ok,rfl,hT,hok,h3,h4,h5,λhc d kvs H' s n e ek=>⟨d,kvs,_,rfl,e,ek,λp bs hp tp=>q6 hc p bs _ (s.trans (smu hp)) (s.free hp) aE (tp.same λb xs e=>smu hp _ _ e)⟩,q7⟩
theorem aVx:aR ["self"] ["self"] (aB iA):=xfs
theorem aFw {f fB fWy fCT C CM CW cT c2 Pr:Addr}{fdB fdWy fdCT:FuncData}{oc kV doc pm ct:Value}{an od:Option Addr}{osl:xAO}
  (lk:K.lookup f=some ⟨oc,od,.func (fnOf "rooms" "Woven.rooms" (aH iA) (aG iA) (aB iA) .none kV doc pm an (.ref c2) ct),osl⟩)(hcd:codeIn K (.ref c2) "Woven.rooms" = true)(hhd:codeHdIn K c2 Pr=true)(bm:qD mg base)
  (WC:uS K CW)(mMR:∃ t,mg "MOST_ROOMS"=some (.int 60 t))
  (GB:aQ P w K mg base CX0 3 fB fdB ["self"] (tE CM CW))(bB:aX K fdB ["self"] [])(mB:eE K CW "begin" fB)
  (GWy:aQ P w K mg base CX0 6 fWy fdWy ["self","room"] (sH K C CM CW))(bWy:aX K fdWy ["self","room"] [])(mWy:eE K CW "ways" fWy)
  (GCT:uU P w K mg base 9 fCT fdCT NCT (SpH P w K mg base 7 (yQ cT)))(kCT:keepIn K (.ref fCT)=true)(bCT:aX K fdCT NCT [])(mCT:mg "come_to"=some (.ref fCT)) :
  aQ P w K mg base (CXE P w) 10 f (fnOf "rooms" "Woven.rooms" (aH iA) (aG iA) (aB iA) .none kV doc pm an (.ref c2) ct) ["self"] (yJ C CM CW cT Pr):=by
 obtain⟨tm,mMR⟩:=mMR;refine aEr lk hcd aVx (λvs H Q E h=>?_) (λA outer s H vs Q E hr h=>?_)
 ·obtain⟨v,x,ms,S,wk,rfl,_⟩:=h;rfl
 ·obtain⟨v,x,ms,S,wk,rfl,W,hl,hN,hW,hkS,h64,hg,so,nd,TB,q1,q2⟩:=h;have D:(lG (CXE P w) P w K mg base ["self"] "Woven.rooms" (aB iA) f (.ref c2) A outer s H E).Body E:=sQ;have hr3:cM 3 _:=hr.mono (by decide)
  refine⟨_,aM (aU (aNp (kd:=6) (P:=Pr) (v3:=.int 60) (NL:=["self"]) (js:=[0]) (te:=λEw=>aIe CW "ways" (sH K C CM CW) [] Ew (aFi 1) (rL (aFi 0) aBd)) GCT hr rfl mCT kCT bCT (D.passes λ_ _ _ z=>z) (λ_=>rfl) rfl hhd bm
   ⟨rfl,rfl,rfl,by decide +kernel,rfl,by decide +kernel⟩ (cJ (aB iA) ["self"] rfl rfl (by decide +kernel)) rfl (λ_ _ _ _ _=>rfl)
   (λEw A outer f c' cl s' H' hr=>cS (E:=Ew) (pv 1) WC.cl mWy GWy hr bWy .nil bZ (pac (pv 0) aF)) (dM (pv 0) WC.cl mB GB hr3 bB .nil bZ) (by rfl) mMR ⟨_,rfl⟩)),?_⟩
  obtain⟨dv,lm,lk',kn,hi,M,hk,hkn⟩:=id W;refine⟨_,rfl,v,dv,_,rfl,hi,dY _ _ _ (by decide),v,x,ms,rfl,W,hl.2,λl H1 s1 n1 e1=>?_⟩;have T1:=TB.same s1;refine T1.hand λc' H2 s2 T2 hc f'=>?_;have nt:=lH T1.tb s2;have sO:aP (off H Pr) H2:=(tZ s1).trans s2;have eF:(λr=>(dH ms (jX ms S r) r).map (·.2))=λr=>S.filterMap (wto ms r):=funext λr=>aEs S;have W2:=ntV nt (W.same s1);have hW2:=ntW nt (eU hW s1);refine⟨l,ms.map (·.b),λr=>dH ms (jX ms S r) r,ROk ms,rfl,nt _ _ e1 trivial,ROk.begin hN,λr hr p hp=>?_,λr _=>?_,λr t' H' Q' s' ok ht hw=>⟨_,rfl,s' _ _ hc,?_⟩,?_,?_⟩
  ·obtain⟨z,hz,rfl⟩:=xAp.mp hp;have hs:=(xBx.mp hz).2;obtain⟨r',er⟩:=xCi.mp hs;show ROk ms ((wto ms r z).getD []);rw[er];exact hr.far hN er
  ·unfold dH jX;rw[xAa];exact xAn (xCe ..) (xEu h64)
  ·have W3:=W2.same s';obtain⟨dv3,lm3,lk3,kn3,hi3,_⟩:=id W3;exact⟨_,rfl,v,dv3,_,rfl,hi3,dY _ _ _ (by decide),_,rfl,v,x,t',ms,r,S,wk,rfl,W3,ht,ok,hl,eU hW2 s',hkS,h64,hg,so,nd,hw⟩
  ·rw[eF];exact λhle l2 bs H' s' n' e' tp=>q1 hle l2 bs H' (sO.trans s') (aKt T2 sO n') (T2.same s') e' tp
  ·rw[eF];exact λhgt H' s'=>q2 hgt H' (sO.trans s') (T2.same s')
def rN (k:Nat):Str:=(Str.empty++("r" : Str))++Str.ofString (toString (k:Int))
theorem yZ:∀ k:Nat,k<64->aW (rN k)=true/\(rN k).length<=100:=by decide +kernel
theorem qL:∀ i:Nat,i<64->∀ j:Nat,j<64->rN i=rN j->i=j:=by decide +kernel
theorem qA:∀ {fs rs:xLL}{i:Nat},i<rs.length->(iI rs fs)[i]?=rs[i]?
 | [],_,_,_=>rfl
 | x::fs,rs,i,h=>by
  by_cases q:x∈rs
  ·show (iI (if x∈rs then rs else rs++[x]) fs)[i]?=_
   rw[xAu q];exact qA h
  ·show (iI (if x∈rs then rs else rs++[x]) fs)[i]?=_
   rw[xAt q,qA (by rw[xAr]; omega),xBz h]
theorem qW:∀ k:Nat,k<64->((k:Int)).natAbs.log2<1920:=by decide +kernel
theorem aRr {α:Type}(a:α):[a].Nodup:=xDb.mpr ⟨(λh=>(nomatch h)),xHi⟩
theorem oR:∀ {fs rs:xLL},rs.Nodup->(iI rs fs).Nodup
 | [],_,h=>h
 | x::fs,rs,h=>oR (fs:=fs) (by
  by_cases q:x∈rs
  ·rw[xAu q]; exact h
  ·rw[xAt q];exact xHf.mpr ⟨h,aRr _,λa ha b hb=>by rw[xAi.mp hb]; exact λe=>q (e▸ha)⟩)
theorem aFd:∀ {fs rs:xLL}{r:List Str},r∈fs->r∈iI rs fs
 | x::fs,rs,r,h=>by
  rcases xAo.mp h with rfl | h
  ·show r∈iI (if r∈rs then rs else rs++[r]) fs
   refine kH ?_
   by_cases q:r∈rs
   ·rw[xAu q]; exact q
   ·rw[xAt q]; exact xBn _ (xAi.mpr rfl)
  ·exact aFd (fs:=fs) (rs:=if x∈rs then rs else rs++[x]) h
theorem uK {F:List Str->List (List Str)}:∀ {n i:Nat}{rs:xLL},rs.Nodup->(gM F n rs i).Nodup
 | 0,_,_,h=>h
 | n+1,i,rs,h=>by
  unfold gM;split
  ·exact uK (oR h)
  ·exact h
theorem pU {F:List Str->List (List Str)}:∀ {n i:Nat}{rs:xLL}{r:List Str},r∈rs->r∈gM F n rs i
 | 0,_,_,_,h=>h
 | n+1,i,rs,r,h=>by
  unfold gM;split
  ·exact pU (kH h)
  ·exact h
theorem rZ {F:List Str->List (List Str)}:∀ {n i:Nat}{rs:xLL},61<=n+i->i<=rs.length->(∀ j r,j<i->rs[j]?=some r->∀ r'∈F r,r'∈rs)->(gM F n rs i).length<=60->∀ r∈gM F n rs i,∀ r'∈F r,r'∈gM F n rs i
 | 0,i,rs,hn,hi,_,hl=>by
  have:rs.length<=60:=hl
  omega
 | n+1,i,rs,hn,hi,hc,hl=>by
  unfold gM at hl ⊢
  by_cases q:i<rs.length/\rs.length<=60
  ·rw[xAu q] at hl ⊢;have hrs:=xAe q.1;have e:rs.getD i []=rs[i]:=by rw[xBl,hrs]; rfl
   rw[e] at hl ⊢;generalize rs[i]=r0 at hrs hl ⊢;refine rZ (by omega) (by have:=sR (rs:=rs) (fs:=F r0); omega) (λj r hj hr r' hr'=>?_) hl;rw[qA (by omega)] at hr
   by_cases ej:j=i
   ·subst ej;rw[hrs] at hr;cases hr;exact aFd hr'
   ·exact kH (hc j r (by omega) hr r' hr')
  ·rw[xAt q] at hl ⊢
   have hi':i=rs.length:=by
    have:¬ i<rs.length:=λz=>q ⟨z,hl⟩
    omega
   intro r hr r' hr';obtain⟨j,hj,ej⟩:=xEg.mp hr;exact hc j r (by omega) (by rw[xAe hj,ej]) r' hr'
section
variable (ms:List MW) (S:List Str)
def rOf (r:List Str):Str:=rN ((bU ms S).idxOf r)
def hJ:List Str:=((bU ms S).filter λr=>qE ms r).map (rOf ms S)
def dR:List Dr:=(bU ms S).flatMap λr=>(dH ms (jX ms S r) r).map λp=>(rOf ms S r,p.1,rOf ms S p.2)
end
section
variable {ms:List MW}{S:List Str}
theorem eS:(bU ms S).Nodup:=uK (aRr _)
theorem mP:ms.map (·.b)∈bU ms S:=pU (xAi.mpr rfl)
theorem pV (h:(bU ms S).length<=60){r r':List Str}{z:Str}(hr:r∈bU ms S)(hz:z∈S)(hw:wto ms r z=some r'):r'∈bU ms S:=
 rZ (by decide) (xBr _) (λj _ hj=>xAz hj (Nat.not_lt_zero _)) h r hr r' (xCd.mpr ⟨z,hz,hw⟩)
theorem aDa (h:(bU ms S).length<=60){r:List Str}(hr:r∈bU ms S):(bU ms S).idxOf r<64:=by
 have:=xFg hr
 omega
theorem nI (h:(bU ms S).length<=60){r r':List Str}(hr:r∈bU ms S)(hr':r'∈bU ms S)(e:rOf ms S r=rOf ms S r'):r=r':=by
 have ei:=qL _ (aDa h hr) _ (aDa h hr') e;have l1:=xFg hr;have e1:=List.getElem_idxOf l1;have l2:=xFg hr';have e2:=List.getElem_idxOf l2;rw[<- e1,<- e2];congr 1
theorem nJ (h:(bU ms S).length<=60):rOf ms S (ms.map (·.b))=rN 0:=by
 have:(bU ms S)[0]?=some (ms.map (·.b)):=by
  have:∀ {F:List Str->List (List Str)}{n i:Nat}{rs:xLL},0<rs.length->(gM F n rs i)[0]?=rs[0]?:=by
   intro F n
   induction n with
   | zero=>intro i rs _; rfl
   | succ n ih=>
    intro i rs hp;unfold gM;split
    ·rw[ih (xBc hp sR),qA hp]
    ·rfl
  rw[this (by show 0<1; decide)];rfl
 obtain⟨hl,e⟩:=xAd.mp this;unfold rOf;rw[<- e,xFu eS]
theorem iF {x:Dr}:x∈dR ms S↔∃ r∈bU ms S,∃ z∈S,∃ r',wto ms r z=some r'/\x=(rOf ms S r,z,rOf ms S r'):=by
 unfold dR;rw[xBs];constructor
 ·rintro⟨r,hr,hx⟩;obtain⟨p,hp,rfl⟩:=xAp.mp hx;obtain⟨z,hz,rfl⟩:=xAp.mp hp;obtain⟨hzS,hs⟩:=xBx.mp hz;obtain⟨r',er⟩:=xCi.mp hs;exact⟨r,hr,z,hzS,r',er,by rw[er]; rfl⟩
 ·rintro⟨r,hr,z,hz,r',er,rfl⟩;refine⟨r,hr,xAp.mpr ⟨(z,(wto ms r z).getD []),xAp.mpr ⟨z,xBx.mpr ⟨hz,by rw[er]; rfl⟩,rfl⟩,by rw[er]; rfl⟩⟩
theorem zQ (h:(bU ms S).length<=60){r:List Str}{z:Str}(hr:r∈bU ms S)(hz:z∈S):cF (dR ms S) (rOf ms S r) z=(wto ms r z).map (rOf ms S):=by
 unfold cF;cases hw:wto ms r z with
 | none=>
  rw[xFk.mpr λx hx e=>?_]
  ·rfl
  ·obtain⟨r2,hr2,z2,hz2,r',er,rfl⟩:=iF.mp hx;have e':=xDl.mp e;have e1:=nI h hr2 hr (xAg e'.1);have e2:z2=z:=xAg e'.2;rw[e1,e2,hw] at er;cases er
 | some r'=>
  have hm:(rOf ms S r,z,rOf ms S r')∈dR ms S:=iF.mpr ⟨r,hr,z,hz,r',hw,rfl⟩
  obtain⟨y,hy⟩:∃ y,(dR ms S).find? (λu=>decide (u.1=rOf ms S r)&&decide (u.2.1=z))=some y:=by
   rw[<- xCi,List.find?_isSome];exact⟨_,hm,by simp⟩
  rw[hy];have hp:=xHt hy;obtain⟨r2,hr2,z2,hz2,r3,er,e3⟩:=iF.mp (xCt hy);subst e3;have e':=xDl.mp hp;have e1:=nI h hr2 hr (xAg e'.1);have e2:z2=z:=xAg e'.2;rw[e1,e2,hw] at er;cases er;rfl
end
theorem sP (ss:List Str):(mks ss []).length=(unl ss []).length:=by
 have:=congrArg List.length (xK ss [] [] rfl)
 rwa [xAa,xAa] at this
theorem aAo {F:List Str->List (List Str)}{Ok:List Str->Prop}(hF:∀ r,Ok r->∀ r'∈F r,Ok r'):∀ {n i:Nat}{rs:xLL},(∀ r∈rs,Ok r)->∀ r∈gM F n rs i,Ok r
 | 0,_,_,h=>h
 | n+1,i,rs,h=>by
  unfold gM
  by_cases q:i<rs.length/\rs.length<=60
  ·rw[xAu q];have hrs:=xAe q.1;have e:rs.getD i []=rs[i]:=by rw[xBl,hrs]; rfl
   rw[e];refine aAo hF λr hr=>?_;rcases pZ hr with hr | hr
   ·exact h r hr
   ·exact hF _ (h _ (xCg q.1)) r hr
  ·rw[xAt q];exact h
theorem uL {ms:List MW}{S:List Str}(hN:∀ m∈ms,m.rs.all aW=true):∀ r∈bU ms S,ROk ms r:=
 aAo (λr hr r' hr'=>by
  obtain⟨z,_,hz⟩:=xCd.mp hr';exact hr.far hN hz) λr hr=>by rw[xAi.mp hr]; exact ROk.begin hN
section
variable {ms:List MW}{S:List Str}
theorem yY (h:(bU ms S).length<=60){r:List Str}(hr:r∈bU ms S):aW (rOf ms S r)=true:=(yZ _ (aDa h hr)).1
theorem qS (h:(bU ms S).length<=60):∀ z∈cC (rN 0) (hJ ms S) (dR ms S),∃ r∈bU ms S,z=rOf ms S r:=λz hz=>by
 rcases xBy.mp hz with hz | hz
 ·rcases xAo.mp hz with rfl | hz
  ·exact⟨_,mP,(nJ h).symm⟩
  ·obtain⟨r,hr,rfl⟩:=xAp.mp hz;exact⟨r,(xBx.mp hr).1,rfl⟩
 ·obtain⟨x,hx,hz⟩:=xBs.mp hz;obtain⟨r,hr,y,hy,r',er,rfl⟩:=iF.mp hx;rcases xAo.mp hz with rfl | hz
  ·exact⟨r,hr,rfl⟩
  ·rw[xAi.mp hz];exact⟨r',pV h hr hy er,rfl⟩
theorem lA (h:(bU ms S).length<=60):(cC (rN 0) (hJ ms S) (dR ms S)).all aW=true:=xBj.mpr λz hz=>by
 obtain⟨r,hr,rfl⟩:=qS h z hz;exact yY h hr
theorem uA (h:(bU ms S).length<=60):(mks (cC (rN 0) (hJ ms S) (dR ms S)) []).length<=60:=by
 rw[sP];refine xAn (eG (N:=(bU ms S).map (rOf ms S)) λz hz=>?_) (by rw[xAa]; exact h);obtain⟨r,hr,rfl⟩:=qS h z hz;exact xAp.mpr ⟨r,hr,rfl⟩
theorem xJ (h:(bU ms S).length<=60)(nd:S.Nodup):Apart (dR ms S):=by
 refine xCk.mpr (xJa.mpr ⟨λr hr=>?_,?_⟩)
 ·refine xCk.mpr (xCk.mpr (xFt (λ{a b} hne e=>?_) (nd.filter _)));exact hne (Prod.mk.inj e).2
 ·refine xCv (λ{a b} ha hb hne x hx y hy e=>?_) eS;obtain⟨p,_,rfl⟩:=xAp.mp hx;obtain⟨p',_,rfl⟩:=xAp.mp hy;exact hne (nI h ha hb (Prod.mk.inj e).1)
theorem qT (h:(bU ms S).length<=60):(hJ ms S).length<=60:=by
 unfold hJ;rw[xAa];exact xAn (xCe ..) h
theorem kG {α β:Type}{f:α->List β}{k:Nat}:∀ {l:List α},(∀ a∈l,(f a).length<=k)->(l.flatMap f).length<=k*l.length
 | [],_=>xBr _
 | a::l,h=>by
  have h1:=h a (xBk ..);have h2:=kG (l:=l) λb hb=>h b (xBg _ hb);rw[List.flatMap_cons,xAr,xBm,Nat.mul_succ];omega
theorem sU (r:List Str):(dH ms (jX ms S r) r).length<=S.length:=by
 unfold dH jX;rw[xAa];exact xCe ..
theorem aCm (h:(bU ms S).length<=60)(h12:S.length<=12):(dR ms S).length<=720:=by
 have:=kG (k:=12) (l:=bU ms S) (f:=λr=>(dH ms (jX ms S r) r).map λp=>(rOf ms S r,p.1,rOf ms S p.2)) λr _=>by
  rw[xAa];exact xAn (sU r) h12
 unfold dR;omega
def nmK (ms:List MW)(S:List Str)(rs:xLL):List (List Key×V):=rs.map λr=>(r.map Sum.inr,V.str (rOf ms S r))
theorem aKx (rs:xLL):(nmK ms S rs).map (·.1)=rs.map λr=>r.map Sum.inr:=by
 unfold nmK;rw[xCy];rfl
theorem pO:∀ {rs:xLL}{r:List Str},r∈rs->dN (nmK ms S rs) (r.map Sum.inr)=some (.str (rOf ms S r))
 | x::rs,r,h=>by
  unfold nmK dN;rw[xCa,xCm]
  by_cases e:x=r
  ·rw[e,xAk rfl];rfl
  ·rw[xBb λz=>e (xS z)];exact pO ((xAo.mp h).resolve_left λz=>e z.symm)
end
theorem aOc {α:Type}{l:List α}(h:l.Nodup){i:Nat}{a:α}(e:l[i]?=some a):¬ a∈l.take i:=λhm=>by
 obtain⟨j,hj,ej⟩:=xEg.mp hm;rw[xBe] at hj;rw[List.getElem_take] at ej;have hi:=(xAd.mp e).1
 have:=(xDa (i:=j) (j:=i) (by omega) h).mp (by rw[e,xAe (by omega),ej])
 omega
theorem gK.tf {H:Hp}{a b:Addr}{o:Obj}{kvs:List (List Key×V)}{k:List Key}(e:H a=some (.frz o (.dT kvs)))(eb:H b=some (.tup (k.map kV))):gK H a (.ref b) (dN kvs k):=.inr ⟨kvs,k,b,.inr ⟨o,e⟩,rfl,eb,rfl⟩
inductive aIm (C CM CW cT Pr:Addr)(vs:List V)(H:Hp)(Q:VK)(E:XK):Prop
 | mk (v x:Addr)(ms:List MW)(S:List Str)(wk:List (Key×V))(h0_:vs=[.ref v])(h1_:Wv CM CW H v x ms)(h2_:1<=ms.length/\ms.length<=100)(h3_:∀ m∈ms,m.rs.all aW=true)(h4_:WAt C H x wk)(h5_:∀ z∈wkn ms,z∈S)(h6_:S.length<=12)(h7_:∀ z∈S,cY wk (.str z)=true)
  (h8_:xBp S=true)(h9_:S.Nodup)(h10_:Tab jF jE Pr H)
  (h11_:(bU ms S).length<=60->∀ (X:Addr) (kn:List Str) H',aP (off H Pr) H'->Tab jF jE Pr H'->(∀ z,z∈kn↔z∈wkn ms)->MM CM H' X x (rN 0) (hJ ms S) kn (dR ms S)->Q (.ref X) H')
  (h12_:60<(bU ms S).length->∀ H',aP (off H Pr) H'->Tab jF jE Pr H'->E (.ref cT) none H')
abbrev NMO:List Str:=["woven","names","place","room","doors","deed","far","ends"]
theorem wU:aR NMO ["woven"] (aB pA):=xfs
abbrev aUb:List Str:=["room","names","woven"]
theorem aNv {f fWR fWy fWE fWD fWB fWK fMI C CM CW cT Pr:Addr}{fd fdWR fdWy fdWE fdWD fdWB fdWK fdMI:FuncData}(F:Fun K "made_one" "made_one" pA f fd)(T:Txt K mg)(WC:uS K CW)
  (GWR:aQ P w K mg base (CXE P w) 10 fWR fdWR ["self"] (yJ C CM CW cT Pr))(bWR:aX K fdWR ["self"] [])(mWR:eE K CW "rooms" fWR)
  (GWy:aQ P w K mg base CX0 6 fWy fdWy ["self","room"] (sH K C CM CW))(bWy:aX K fdWy ["self","room"] [])(mWy:eE K CW "ways" fWy)
  (GWE:aQ P w K mg base CX0 5 fWE fdWE ["self","room"] (yK K CM CW))(bWE:aX K fdWE ["self","room"] [])(mWE:eE K CW "is_end" fWE)
  (GWD:aQ P w K mg base CX0 2 fWD fdWD ["self"] (tD CM CW))(bWD:aX K fdWD ["self"] [])(mWD:eE K CW "deeds" fWD)
  (GWB:aQ P w K mg base CX0 3 fWB fdWB ["self"] (tE CM CW))(bWB:aX K fdWB ["self"] [])(mWB:eE K CW "begin" fWB)
  (GWK:aQ P w K mg base CX0 1 fWK fdWK ["self"] (sZ CM CW))(bWK:aX K fdWK ["self"] [])(mWK:eE K CW "knows" fWK)
  (GMI:aQ P w K mg base (CXE P w) 4 fMI fdMI ["self","deeds","begin","ends","doors","more"] (oX K C CM))(MMk:Mk K CM fMI)(bMI:aX K fdMI ["self","deeds","begin","ends","doors","more"] [])(mMa:mg "Machine" = some (.ref CM)) :
  aQ P w K mg base (CXE P w) 11 f fd ["woven"] (aIm C CM CW cT Pr):=by
 refine okE F wU (λvs H Q E h=>?_) (λcdv A outer s H vs Q E hr h D=>?_)
 ·obtain⟨v,x,ms,S,wk,rfl,_⟩:=h;rfl
 ·obtain⟨v,x,ms,S,wk,rfl,W,hl,hN,hW,hkS,h12,hg,so,nd,TB,q1,q2⟩:=h;have hu:=jH hr;have hr1:cM 1 _:=hr.mono (by decide);have hr2:cM 2 _:=hr.mono (by decide);have hr3:cM 3 _:=hr.mono (by decide);have hr5:cM 5 _:=hr.mono (by decide);have hr6:cM 6 _:=hr.mono (by decide)
  refine⟨_,aJ (bJ (i:=1) wU.nd rfl (xEt rfl) zJ)
   (aJ (dZ PassesOwn.leaving rfl (kY rfl T.enum (pac (dM (E:=E) (pv 0) WC.cl mWR GWR hr bWR .nil (D.passes λ_ _ _ z=>z)) aF)) (eO rfl (aY (aS (i:=2) wU.nd rfl (xAy rfl)) (aY (aS (i:=3) wU.nd rfl (xAy rfl)) dO)))
    (aM (jR hu (pv 1) (pv 3) (zI aO (xF (pv 2))) rfl)))
   (aJ (bJ (i:=4) wU.nd rfl (xAy rfl) (cA aF))
   (aJ (dZ PassesOwn.leaving rfl (zF (tU (pv 1))) (aS (i:=3) wU.nd rfl (xAy rfl))
    (aM (dZ PassesOwn.leaving rfl (cU (cS (pv 0) WC.cl mWy GWy hr6 bWy .nil bZ (pac (pv 3) aF))) (eO rfl (aY (aS (i:=5) wU.nd rfl (xAy rfl)) (aY (aS (i:=6) wU.nd rfl (xAy rfl)) dO)))
     (aM (dA (lW xBq xDn xDm iY (pv 4) (pac (dL (pac (iQ hu (pv 1) (pv 3) (λ_ _=>rfl)) (pac (pv 5) (pac (iQ hu (pv 1) (pv 6) (λ_ _=>rfl)) aF)))) aF)))))))
   (aJ (gE (i:=7) (N':=aUb) (nown:=1) (js:=[1,0]) rfl wU.nd rfl rfl rfl
     xbs (cJ (aB pA) NMO rfl rfl (by decide +kernel))
     ⟨λ_ _ _ _=>aS (i:=0) (show List.Nodup aUb by decide +kernel) rfl (xAy rfl) (.inr rfl),λ_ _ _ _=>iP (jW (cS (pv 2) WC.cl mWE GWE hr5 bWE .nil bZ (pac (pv 0) aF))),λ_ _ _ _=>iQ hu (pv 1) (pv 0) (λ_ _=>rfl)⟩
     (zF (tU (pv 1))))
   (aM (aU (dB (E:=E0) MMk GMI hr5 rfl mMa bMI .nil fV (pac (dM (pv 0) WC.cl mWD GWD hr2 bWD .nil bZ) (pac (iQ hu (pv 1) (dM (pv 0) WC.cl mWB GWB hr3 bWB .nil bZ) (λ_ _=>rfl)) (pac (pv 7) (pac (pv 4) (pac (dM (pv 0) WC.cl mWK GWK hr1 bWK .nil bZ) aF)))))))))))),?_⟩
  intro nm hnm;have s1:aP H (upd H nm (.dT [])):=smu hnm;have e1:(upd H nm (.dT [])) nm=some (.dT (nmK ms S [])):=aE;generalize upd H nm (.dT [])=H1 at s1 e1 ⊢;have W1:=W.same s1;have hW1:=eU hW s1;have T1:=TB.same s1;obtain⟨dv,lm,lk',kn',hi1,_⟩:=id W1;refine⟨_,rfl,v,dv,_,rfl,hi1,dY _ _ _ (by decide),v,x,ms,S,wk,rfl,W1,hl,hN,hW1,hkS,by omega,hg,so,nd,T1,λhle L bs H2 s2 n2 T2 eL tp2=>?_,λhgt H2 s2 T2=>q2 hgt H2 ((tZ s1).trans s2) T2⟩;have q1':=q1 hle;clear q1 q2;have nt2:=lH T1.tb s2;have W2:=ntV nt2 W1;have hW2:=ntW nt2 hW1;obtain⟨psr,hpr⟩:=T1.tb;have e2:H2 nm=some (.dT (nmK ms S [])):=s2 _ _ (oK (gQ e1 hpr (λz=>nomatch z)) e1);have sO:aP (off H Pr) H2:=(tZ s1).trans s2;have okr:=uL (ms:=ms) (S:=S) hN;have inr:=λ(r:List Str) (hr:r∈bU ms S) (z:Str) (hz:z∈S) (r':List Str) (hw:wto ms r z=some r')=>pV hle hr hz hw;have ndr:(bU ms S).Nodup:=eS;have bgn:ms.map (·.b)∈bU ms S:=mP;have eDo:(bU ms S).flatMap (λr=>(dH ms (jX ms S r) r).map λp=>(rOf ms S r,p.1,rOf ms S p.2))=dR ms S:=rfl;have eEn:((bU ms S).filter λr=>qE ms r).map (rOf ms S)=hJ ms S:=rfl
  have eIx:∀ i r,(bU ms S)[i]?=some r->rOf ms S r=rN i:=λi r h=>by
   obtain⟨hi,e⟩:=xAd.mp h;unfold rOf;rw[<- e,xFu ndr]
  have lbs:bs.length=(bU ms S).length:=Paired.length tp2;have dl:=aCm hle h12;have el:=qT hle;have hap:=xJ hle nd;have hrn:=lA hle;have hrf:=uA hle;have hb0:=nJ hle;have hnm':=hnm;clear s2 nt2 W1 hW1 T1 hi1 e1 s1 hW W TB hnm;generalize bU ms S=rs at *;refine⟨L,rfl,⟨_,SqL.of eL⟩,?_⟩;refine uG (xs:=bs.map V.ref) (λi σ H'=>∃ x2 x3:Option V,σ=[some (.ref v),some (.ref nm),x2,x3,none,none,none,none]/\H' nm=some (.dT (nmK ms S (rs.take i)))/\SameBut nm H2 H') ?_ ?_ ?_ ?_
  ·exact⟨_,_,rfl,e2,λb o _ e=>e⟩
  ·rintro i σ H' _ ⟨x2,x3,rfl,a1,a2⟩;exact SqL.of (a2 _ _ (gQ eL e2 (λz=>nomatch z)) eL)
  ·rintro i u σ H' t hv ⟨x2,x3,rfl,a1,a2⟩ ht;rw[xAf] at hv;cases hb:bs[i]? with
   | none=>rw[hb] at hv; cases hv
   | some b=>
    rw[hb] at hv;cases hv;obtain⟨r,hr,hbr⟩:=tp2.get hb;have hi:i<rs.length:=(xAd.mp hr).1;have hb':=a2 _ _ (gQ hbr e2 (λz=>nomatch z)) hbr;have k1:aP H' (upd H' t (.tup [.int i,.ref b])):=smu ht;have et:(upd H' t (.tup [.int i,.ref b])) t=some (.tup [.int i,.ref b]):=aE;generalize upd H' t (.tup [.int i,.ref b])=H3 at k1 et ⊢;refine⟨t,_,rfl,SqT.of et,rfl,_,_,rfl,_,_,rfl,rfl,?_⟩;have hln:=(yZ i (by omega)).2;refine⟨_,rfl,by decide +kernel,_,rfl,(i:Int),rfl,qW i (by omega),_,rfl,iL (xAn hln (by decide)),iL (xAn hln (by decide)),_,rfl,_,rfl,nm,_,rfl,qB.t (k:=r.map Sum.inr) (k1 _ _ a1) (by rw[jG]; exact k1 _ _ hb') (bO (by unfold nmK; rw[xAa,xBe]; omega)),?_⟩;refine⟨_,_,rfl,?_,λb o n e=>by rw[aL n]; exact k1 _ _ (a2 b o n e)⟩;rw[aE,aEh]
    ·rw[xBf,hr];unfold nmK;rw[xAm];show _=some (HO.dT (_++[(r.map Sum.inr,V.str (rOf ms S r))]));rw[eIx i r hr];rfl
    ·rw[xQ (aKx _),xBb];exact aOc ndr hr
  rintro σ H3 ⟨x2,x3,rfl,a1,a2⟩;rw[xAa,lbs,xAx] at a1;refine⟨by show 0<=sizeLine; decide,λdd hdd=>?_⟩;have nmd:nm≠dd:=aI a1 hdd;refine⟨_,rfl,.mk nm _ rfl (smu hdd _ _ a1) λo=>⟨nm,o,_,rfl,aE,?_⟩⟩;have B0:∀ b u,b≠nm->H2 b=some u->(upd H3 nm (.frz o (.dT (nmK ms S rs)))) b=some u:=λb u n e=>by rw[aL n]; exact a2 b u n e
  have Bn:(upd H3 nm (.frz o (.dT (nmK ms S rs)))) nm=some (.frz o (.dT (nmK ms S rs))):=aE;have Bd:(upd H3 nm (.frz o (.dT (nmK ms S rs)))) dd=none:=by rw[aL (Ne.symm nmd)]; exact hdd
  have B5:aP (upd H3 nm (.frz o (.dT (nmK ms S rs)))) (upd (upd H3 dd (.lst [])) nm (.frz o (.dT (nmK ms S rs)))):=λb u e=>by
   by_cases n:b=nm
   ·rw[n,aE] at e ⊢;exact e
   ·rw[aL n] at e ⊢;exact smu hdd _ _ e
  have D5:cQ (upd (upd H3 dd (.lst [])) nm (.frz o (.dT (nmK ms S rs)))) dd []:=⟨[],by rw[aL (Ne.symm nmd),aE]; rfl,rfl,λi t x z=>nomatch z⟩;generalize upd H3 nm (.frz o (.dT (nmK ms S rs)))=B at B0 Bn Bd B5;generalize upd (upd H3 dd (.lst [])) nm (.frz o (.dT (nmK ms S rs)))=H5 at B5 D5 ⊢;have ntB:NTb H2 B:=λb u e p=>B0 b u (aPq e2 (λz=>z) e p) e;have WB:=ntV ntB W2;have hWB:=ntW ntB hW2;have TB:Tab jF jE Pr B:=T2.elim (λh=>.inl (B0 _ _ (gQ h e2 (λz=>nomatch z)) h)) λ⟨c',h1,h2⟩=>.inr ⟨c',B0 _ _ (gQ h1 e2 (λz=>nomatch z)) h1,B0 _ _ (gQ h2 e2 (λz=>nomatch z)) h2⟩;have sOB:aP (off H Pr) B:=λb u e=>B0 _ _ (λz=>by have:=sO _ _ e; rw[z] at e; rw[(gP e).2] at hnm'; cases hnm') (sO _ _ e);have knm:(nmK ms S rs).length=rs.length:=by unfold nmK; rw[xAa]
  have kvr:∀ (i:Nat) (kv:List Key×V),(nmK ms S rs)[i]?=some kv->∃ r,rs[i]?=some r/\kv=(r.map Sum.inr,V.str (rOf ms S r)):=λi kv hkv=>by
   unfold nmK at hkv;rw[xAf] at hkv;cases hr:rs[i]? with
   | none=>rw[hr] at hkv; cases hkv
   | some r=>rw[hr] at hkv; cases hkv; exact⟨r,rfl,rfl⟩
  have S64:S.length<64:=by omega
  clear a1 a2 hdd B0 e2 eL tp2 n2 T2 W2 hW2 ntB;refine aHf (kvs:=nmK ms S rs) (λi σ H'=>∃ x2 x3 x5 x6:Option V,σ=[some (.ref v),some (.ref nm),x2,x3,some (.ref dd),x5,x6,none]/\cQ H' dd ((rs.take i).flatMap λr=>(dH ms (jX ms S r) r).map λp=>(rOf ms S r,p.1,rOf ms S p.2))/\aP B H') ?_ ?_ ?_ ?_
  ·exact⟨_,_,_,_,rfl,D5,B5⟩
  ·rintro i σ H' _ ⟨x2,x3,x5,x6,rfl,a1,a2⟩;exact a2 _ _ Bn
  ·rintro i kv b σ H' hkv hb ⟨y2,y3,y5,y6,rfl,a1,a2⟩;obtain⟨r,hr,rfl⟩:=kvr i kv hkv;have hrm:=xBa hr;have hb:H' b=some (.tup (r.map V.str)):=by rw[<- jG]; exact hb
   have WH:=WB.same a2;obtain⟨dvh,lmh,lkh,knh,hih,_⟩:=id WH;refine⟨_,rfl,v,dvh,_,rfl,hih,dY _ _ _ (by decide),_,rfl,v,x,b,ms,r,S,wk,rfl,WH,hb,okr r hrm,hl,eU hWB a2,hkS,S64,hg,so,nd,λl H6 s6 n6 Wy=>?_⟩;obtain⟨ts,w0,w1,w2⟩:=Wy.ex;obtain⟨us0,u0,u1,_⟩:=id a1.ex;have ld:l≠dd:=λz=>by rw[z,u0] at n6; cases n6
   have dd6:=s6 _ _ u0;have nB:aP B H6:=a2.trans s6
   have fmem:∀ z∈dH ms (jX ms S r) r,z.2∈rs:=λz hz=>by
    obtain⟨y,hy,rfl⟩:=xAp.mp hz;obtain⟨hyS,hs⟩:=xBx.mp hy;obtain⟨r',er⟩:=xCi.mp hs;show (wto ms r y).getD []∈rs;rw[er];exact inr r hrm y hyS r' er
   have wl:(dH ms (jX ms S r) r).length<=12:=xAn (sU r) h12
   have pl:=kG (k:=12) (l:=rs.take i) (f:=λr=>(dH ms (jX ms S r) r).map λp=>(rOf ms S r,p.1,rOf ms S p.2)) λr _=>by
    rw[xAa];exact xAn (sU r) h12
   rw[xBe] at pl
   have etk:(rs.take (i+1)).flatMap (λr=>(dH ms (jX ms S r) r).map λp=>(rOf ms S r,p.1,rOf ms S p.2))=(rs.take i).flatMap (λr=>(dH ms (jX ms S r) r).map λp=>(rOf ms S r,p.1,rOf ms S p.2))++(dH ms (jX ms S r) r).map λp=>(rOf ms S r,p.1,rOf ms S p.2):=by
    rw[xBf,hr,xGu,Option.toList_some,List.flatMap_cons,List.flatMap_nil,xBo]
   refine⟨l,rfl,⟨_,SqL.of w0⟩,?_⟩;generalize (rs.take i).flatMap (λr=>(dH ms (jX ms S r) r).map λp=>(rOf ms S r,p.1,rOf ms S p.2))=pre at a1 pl etk;generalize dH ms (jX ms S r) r=fs at w1 w2 fmem wl etk;refine dE (xs:=ts.map V.ref) (λj σ H7=>∃ z5 z6:Option V,σ=[some (.ref v),some (.ref nm),y2,some (.ref b),some (.ref dd),z5,z6,none]/\cQ H7 dd (pre++(fs.take j).map λp=>(rOf ms S r,p.1,rOf ms S p.2))/\SameBut dd H6 H7/\aP B H7) ?_ ?_ ?_ ?_
   ·exact⟨_,_,rfl,by rw[List.take_zero,xHk,xBo]; exact a1.same s6,λb o _ e=>e,nB⟩
   ·rintro j σ H7 _ ⟨z5,z6,rfl,c1,c2,c3⟩;exact SqL.of (c2 _ _ ld w0)
   ·rintro j vv σ H7 hv ⟨z5,z6,rfl,c1,c2,c3⟩;rw[xAf] at hv;cases hy:ts[j]? with
    | none=>rw[hy] at hv; cases hv
    | some y=>
     rw[hy] at hv;cases hv;have hj:j<fs.length:=by rw[<- w1]; exact (xAd.mp hy).1
     have hz:=xAe hj;have hzm:fs[j]∈fs:=xCg hj;generalize fs[j]=z at hz hzm;obtain⟨u,w3,w4⟩:=w2 j y z hy hz;have w3':=c2 _ _ (gQ w3 dd6 (λz=>nomatch z)) w3;have w4':=c2 _ _ (gQ w4 dd6 (λz=>nomatch z)) w4;have b7:=c2 _ _ (gQ (s6 _ _ hb) dd6 (λz=>nomatch z)) (s6 _ _ hb);have n7:=c3 _ _ Bn;have g1:=gK.tf (k:=r.map Sum.inr) n7 (b:=b) (by rw[jG]; exact b7);rw[pO hrm] at g1;have g2:=gK.tf (k:=z.2.map Sum.inr) n7 (b:=u) (by rw[jG]; exact w4');rw[pO (fmem z hzm)] at g2;obtain⟨vs,v0,v1,_⟩:=id c1.ex;refine⟨y,_,rfl,SqT.of w3',rfl,_,_,rfl,_,_,rfl,rfl,?_⟩;refine⟨_,rfl,.inl ⟨rfl,_,SqL.of v0⟩,_,rfl,_,rfl,nm,_,rfl,g1,_,rfl,_,rfl,_,rfl,nm,_,rfl,g2,by show 3<=sizeLine; decide,λtt htt=>?_⟩;obtain⟨xs,x0,x1,xd⟩:=c1.push htt (rOf ms S r,z.1,rOf ms S z.2);rw[v0] at x0;cases x0;refine⟨dd,_,_,rfl,rfl,smu htt _ _ v0,bO (by rw[xAa,v1,xAr,xAa,xBe]; omega),?_⟩;refine⟨_,_,rfl,?_,λb' o' n e=>by rw[aL n]; exact smu htt _ _ (c2 b' o' n e),λb' o' e=>by rw[aL (aI e Bd)]; exact smu htt _ _ (c3 _ _ e)⟩;rw[xBf,hz,xAm,<- xHh];exact xd
   ·rintro σ H7 ⟨z5,z6,rfl,c1,c2,c3⟩;rw[xAa,w1,xAx] at c1;exact⟨_,_,_,_,rfl,by rw[etk]; exact c1,c3⟩
  rintro σ H6 ⟨y2,y3,y5,y6,rfl,a1,a2⟩;rw[knm,xAx,eDo] at a1;have n6:=a2 _ _ Bn;refine⟨_,rfl,.no o nm _ rfl n6 ⟨nm,o,_,rfl,n6,λD2 hD2=>?_⟩⟩;refine aHs (kvs:=nmK ms S rs) (λi σ' H'=>∃ v0,σ'=[v0,some (.ref nm),some (.ref v)]/\H' D2=some (.lst ((((rs.take i).filter λr=>qE ms r).map (rOf ms S)).map V.str))/\aP H6 H') ?_ ?_ ?_ ?_
  ·exact⟨none,rfl,aE,smu hD2⟩
  ·rintro i σ' H' _ ⟨v0,rfl,c1,c2⟩;exact c2 _ _ n6
  ·rintro i kv b σ' H' hkv hb ⟨v0,rfl,c1,c2⟩;obtain⟨r,hr,rfl⟩:=kvr i kv hkv;have hrm:=xBa hr;have hb:H' b=some (.tup (r.map V.str)):=by rw[<- jG]; exact hb
   have WH:=WB.same (a2.trans c2);obtain⟨dvh,lmh,lkh,knh,hih,_⟩:=id WH
   have ef:(rs.take (i+1)).filter (λr=>qE ms r)=(rs.take i).filter (λr=>qE ms r)++(if qE ms r=true then [r] else []):=by
    rw[xBf,hr,xDz];congr 1;show List.filter _ [r]=_;rw[xCw,xGi]
   have lf:((rs.take i).filter λr=>qE ms r).length<=60:=xAn (xCe ..) (by rw[xBe]; omega);refine⟨_,rfl,v,dvh,_,rfl,hih,dY _ _ _ (by decide),_,rfl,v,x,b,ms,r,rfl,WH,SqT.of hb,okr r hrm,hl.2,λH7 s7=>⟨_,rfl,?_⟩⟩;cases hw:qE ms r with
   | false=>
    refine fX ⟨_,rfl,?_,c2.trans s7⟩;rw[ef,hw]
    simpa using s7 _ _ c1
   | true=>
    have g1:=gK.tf (k:=r.map Sum.inr) (s7 _ _ (c2 _ _ n6)) (b:=b) (by rw[jG]; exact s7 _ _ hb);rw[pO hrm] at g1;refine gX ⟨_,rfl,_,rfl,nm,_,rfl,g1,_,s7 _ _ c1,bO (by rw[xAa,xAa]; omega),_,rfl,?_,λb o e=>?_⟩
    ·rw[aE,ef,hw,xAm,xAm];rfl
    ·rw[aL (aI e hD2)];exact s7 _ _ (c2 _ _ e)
  rintro σ' H8 ⟨v0,rfl,c1,c2⟩;rw[knm,xAx,eEn] at c1;have s8:=a2.trans c2;have W8:=WB.same s8;obtain⟨dvh,lmh,lkh,knh,hih,_⟩:=id W8;refine⟨_,rfl,v,dvh,_,rfl,hih,dY _ _ _ (by decide),v,x,ms,rfl,W8,hl.1,_,rfl,_,rfl,v,dvh,_,rfl,hih,dY _ _ _ (by decide),v,x,ms,rfl,W8,hl.2,λbg H9 s9 n9 e9=>?_⟩;have g1:=gK.tf (k:=(ms.map (·.b)).map Sum.inr) (s9 _ _ (c2 _ _ n6)) (b:=bg) (by rw[jG]; exact e9);rw[pO bgn,hb0] at g1;have W9:=W8.same s9;have s9B:=s8.trans s9;obtain⟨dv9,lm9,lk9,kn9,hi9,_⟩:=id W9;refine⟨nm,_,rfl,g1,_,rfl,_,rfl,_,rfl,v,dv9,_,rfl,hi9,dY _ _ _ (by decide),v,x,ms,S,rfl,W9,hkS,S64,λkl kts H10 s10 n10 e10 S10 X dX hX hdX _=>?_⟩;have s10B:=s9B.trans s10;have k1:aP H10 (upd (upd H10 dX (.own X)) X (.ins CM dX [])):=λb o' e'=>by rw[aL (aI e' hX),aL (aI e' hdX)]; exact e'
  have hkn:∀ z,z∈aZ (dR ms S) kts↔z∈wkn ms:=λz=>by
   unfold aZ;rw[xBy,S10.mem];refine⟨λh=>h.elim (λh=>?_) id,.inr⟩;obtain⟨y,hy,rfl⟩:=xAp.mp h;obtain⟨r,hr,z,hz,r',er,rfl⟩:=iF.mp hy;exact aHv (by rw[er]; rfl)
  have hgk:∀ z∈aZ (dR ms S) kts,cY wk (.str z)=true:=λz hz=>hg z (hkS z ((hkn z).mp hz))
  have lk:kts.length<=64:=by
   have:=eG (rs:=kts) (N:=S) λz hz=>hkS z ((S10.mem z).mp hz)
   rw[<- (lU (m:=unl kts []) S10.nd (λz hz=>kP.mpr hz) (eG λz hz=>hz)).length_eq] at this;omega
  refine⟨X,x,D2,dd,dX,rN 0,.ref kl,hJ ms S,kts,dR ms S,wk,rfl,aE,eU hWB (s10B.trans k1),k1 _ _ (s10 _ _ (s9 _ _ c1)),((a1.same (c2.trans s9)).same s10).same k1,.inr ⟨kl,rfl,k1 _ _ e10⟩,⟨by omega,by omega,by omega⟩,hrn,xBj.mpr λy hy=>?_,λz hz=>rF (hgk z hz),hap,hrf,λlM eM kM kvs g H11 sb M11=>⟨rfl,q1' X _ H11 (sOB.trans (λb u e=>sb b u (aI (s10B _ _ e) hX) (k1 _ _ (s10B _ _ e)))) (TB.same (λb u e=>sb b u (aI (s10B _ _ e) hX) (k1 _ _ (s10B _ _ e)))) hkn ⟨dX,lM,eM,kM,kvs,g,M11⟩⟩⟩;obtain⟨z,hz,rfl⟩:=xAp.mp hy;exact hgk z hz
theorem wF {F:List Str->List (List Str)}{p:List Str->Prop}:∀ {n i:Nat}{rs:xLL},(∀ r∈rs,p r)->(∀ r∈gM F n rs i,∀ r'∈F r,p r')->∀ r∈gM F n rs i,p r
 | 0,_,_,h,_=>h
 | n+1,i,rs,h,g=>by
  unfold gM at g ⊢
  by_cases q:i<rs.length/\rs.length<=60
  ·rw[xAu q] at g ⊢;refine wF (λr hr=>?_) g;rcases pZ hr with hr | hr
   ·exact h r hr
   ·have e:rs.getD i []=rs[i]:=by rw[xBl,xAe q.1]; rfl
    exact g _ (pU (kH (by rw[e]; exact xCg q.1))) r hr
  ·rw[xAt q] at g ⊢;exact h
section
variable {ms:List MW}{S:List Str}
theorem lB (h:(bU ms S).length<=60){z:Str}:z∈cC (rN 0) (hJ ms S) (dR ms S)↔z∈(bU ms S).map (rOf ms S):=by
 constructor
 ·intro hz;obtain⟨r,hr,rfl⟩:=qS h z hz;exact xAp.mpr ⟨r,hr,rfl⟩
 ·intro hz;obtain⟨r,hr,rfl⟩:=xAp.mp hz
  have hp:r=ms.map (·.b)\/∃ r0∈bU ms S,∃ y∈S,wto ms r0 y=some r:=wF (p:=λr=>r=ms.map (·.b)\/∃ r0∈bU ms S,∃ y∈S,wto ms r0 y=some r) (λr hr=>.inl (xAi.mp hr)) (λr0 h0 r' h'=>by
   obtain⟨y,hy,e⟩:=xCd.mp h';exact .inr ⟨r0,h0,y,hy,e⟩) r hr
  rcases hp with rfl | ⟨r0,h0,y,hy,e⟩
  ·rw[nJ h];exact xDj _ (xBk ..)
  ·exact xBn _ (xBs.mpr ⟨_,iF.mpr ⟨r0,h0,y,hy,r,e,rfl⟩,xBg _ (xAi.mpr rfl)⟩)
theorem aBx (h:(bU ms S).length<=60):((bU ms S).map (rOf ms S)).Nodup:=xCk.mpr (xCv (λ{a b} ha hb hne e=>hne (nI h ha hb e)) eS)
theorem zP (h:(bU ms S).length<=60):(hJ ms S).Nodup:=xCk.mpr (xCv (λ{a b} ha hb hne e=>hne (nI h (xBx.mp ha).1 (xBx.mp hb).1 e)) (eS.filter _))
theorem aTa {ts l:List Str}(so:xBp ts=true)(pm:ts.Perm (unl l [])):Srt ts (λz=>z∈l):=⟨so,pm.nodup_iff.mpr (nC _ _ .nil),λz=>pm.mem_iff.trans kP⟩
theorem aMz {ts l:List Str}(so:xBp ts=true)(pm:ts.Perm l)(nd:l.Nodup):Srt ts (λz=>z∈l):=⟨so,pm.nodup_iff.mpr nd,λz=>pm.mem_iff⟩
end
end
end K35
namespace K35
open PySem L2 Ky PySem.W
seal L2.PE L2.PS L2.PSs L2.PA L2.PT L2.PW L2.PG L2.PI L2.PTs L2.OpR L2.IxR L2.CallR L2.MtM L2.MtR
inductive RK
 | never (a:Str) | most (a:Str) (n:Nat) | two (w:Fin 4) (a b:Str)
def tpl:Fin 4->List (Nat×Bool×Nat)
 | 0=>[(0,false,1),(1,false,1),(1,true,1)]
 | 1=>[(0,false,1),(1,true,0)]
 | 2=>[(0,false,1),(0,true,0),(1,true,0)]
 | 3=>[(0,false,1),(0,true,0),(1,false,1),(1,true,0)]
abbrev dor (a b:Str)(t:Nat×Bool×Nat):Dr:=(rN t.1,if t.2.1=true then b else a,rN t.2.2)
def RK.ends:RK->List Str
 | .never _=>[rN 0]
 | .most _ n=>(List.range (n+1)).map rN
 | .two w _ _=>if w=3 then [rN 0] else [rN 0,rN 1]
def RK.doors:RK->List Dr
 | .never _=>[]
 | .most a n=>(List.range n).map λi=>(rN i,a,rN (i+1))
 | .two w a b=>(tpl w).map (dor a b)
def RK.about:RK->List Str
 | .two _ a b=>[a,b]
 | .never a=>[a]
 | .most a _=>[a]
def RK.more:RK->List Str
 | .two _ _ _=>[]
 | .never a=>[a]
 | .most a _=>[a]
def RK.idx:RK->Nat
 | .never _=>0
 | .most _ _=>1
 | .two w _ _=>2+w
def RK.flds:RK->List (Str×V)
 | .never a=>[("deed",.str a)]
 | .most a n=>[("deed",.str a),("many",.int n)]
 | .two _ a b=>[("one",.str a),("other",.str b)]
def RK.Wf:RK->Prop
 | .never _=>True
 | .most _ n=>n<=6
 | .two _ a b=>a≠b
abbrev RK.mw (k:RK):MW:=⟨rN 0,k.ends,aZ k.doors k.more,k.doors⟩
structure MOk (S:List Str)(m:MW):Prop where
 nm:m.rs.all aW=true
 kn:∀ z∈m.kn,z∈S
 few:(unl m.rs []).length<=60
theorem aGv {b:Str}{es:List Str}{ds:List Dr}{z:Str}(h:z∈cC b es ds):z=b\/z∈es\/∃ x∈ds,z=x.1\/z=x.2.2:=by
 unfold cC fJ at h;simp only[List.cons_append,List.mem_cons,List.mem_append,List.mem_flatMap,List.not_mem_nil,or_false] at h;exact h
theorem aQz (k:RK)(hk:k.Wf):∀ z∈k.mw.rs,∃ i,i<8/\z=rN i:=by
 intro z hz;rcases aGv hz with rfl | h | ⟨x,hx,h⟩
 ·exact⟨0,by decide,rfl⟩
 ·cases k with
  | never a=>exact⟨0,by decide,xAi.mp h⟩
  | most a n=>
   obtain⟨i,hi,rfl⟩:=xAp.mp h
   have:=xCh.mp hi
   have:n<=6:=hk
   exact⟨i,by omega,rfl⟩
  | two w a b=>
   simp only[RK.ends] at h;split at h
   ·exact⟨0,by decide,xAi.mp h⟩
   ·rcases xAo.mp h with rfl | h
    ·exact⟨0,by decide,rfl⟩
    ·exact⟨1,by decide,xAi.mp h⟩
 ·cases k with
  | never a=>cases hx
  | most a n=>
   obtain⟨i,hi,rfl⟩:=xAp.mp hx
   have:=xCh.mp hi
   have:n<=6:=hk
   rcases h with rfl | rfl
   ·exact⟨i,by omega,rfl⟩
   ·exact⟨i+1,by omega,rfl⟩
  | two w a b=>
   obtain⟨t,ht,rfl⟩:=xAp.mp hx
   have:=(show ∀ w,∀ t∈tpl w,t.1<2/\t.2.2<2 by decide) w t ht
   rcases h with rfl | rfl
   ·exact⟨t.1,by omega,rfl⟩
   ·exact⟨t.2.2,by omega,rfl⟩
theorem mC (k:RK)(z:Str):z∈k.mw.kn↔z∈k.about:=by
 show z∈k.doors.map (·.2.1)++k.more↔_;rw[xBy,xAp];cases k with
 | never a=>exact⟨λh=>h.elim (λ⟨_,h,_⟩=>nomatch h) id,.inr⟩
 | most a n=>
  refine⟨λh=>h.elim (λ⟨x,h,e⟩=>?_) id,.inr⟩;obtain⟨i,_,rfl⟩:=xAp.mp h;exact xAi.mpr e.symm
 | two w a b=>
  have hh:=(show ∀ w,((tpl w).any λt=>!t.2.1)=true/\((tpl w).any λt=>t.2.1)=true by decide) w;constructor
  ·rintro (⟨x,h,rfl⟩ | h)
   ·obtain⟨t,_,rfl⟩:=xAp.mp h;show (if t.2.1=true then b else a)∈[a,b]
    split <;> simp
   ·cases h
  ·intro h;rcases xAo.mp h with rfl | h
   ·obtain⟨t,ht,e⟩:=xDt.mp hh.1;exact .inl ⟨_,xAp.mpr ⟨t,ht,rfl⟩,xAt (λq=>by have e:(!t.2.1)=true:=e; rw[q] at e; cases e)⟩
   ·obtain⟨t,ht,e⟩:=xDt.mp hh.2;exact .inl ⟨_,xAp.mpr ⟨t,ht,rfl⟩,(xAu e).trans (xAi.mp h).symm⟩
structure RF (k:RK):Prop where
 nm:k.mw.rs.all aW=true
 ap:Ky.Apart k.doors
 few:(unl k.mw.rs []).length<=8
 le:k.ends.length<=200/\k.doors.length<=800/\k.more.length<=200
theorem oH (k:RK)(hk:k.Wf):RF k:=by
 have r8:=aQz k hk;refine⟨xBj.mpr λz hz=>?_,?_,?_,?_⟩
 ·obtain⟨i,hi,rfl⟩:=r8 z hz;exact (yZ i (by omega)).1
 ·unfold Ky.Apart;cases k with
  | never a=>exact .nil
  | most a n=>
   show (((List.range n).map λi=>(rN i,a,rN (i+1))).map λx=>(x.1,x.2.1)).Nodup;rw[xCy];refine xCk.mpr (xCv (λ{i j} hi hj hlt e=>?_) (xEp (n:=n)));have h1:=xCh.mp hi;have h2:=xCh.mp hj
   have:n<=6:=hk
   have:=qL i (by omega) j (by omega) (Prod.mk.inj e).1
   omega
  | two w a b=>
   have hab:a≠b:=hk;show (((tpl w).map (dor a b)).map λx=>(x.1,x.2.1)).Nodup;rw[xCy];have h2:=(show ∀ w,((tpl w).map λt=>(t.1,t.2.1)).Nodup/\∀ t∈tpl w,t.1<2/\t.2.2<2 by decide) w;refine xCk.mpr (xCv (λ{t u} ht hu hne e=>?_) (xCk.mp h2.1));have e1:=qL t.1 (by have:=h2.2 t ht; omega) u.1 (by have:=h2.2 u hu; omega) (Prod.mk.inj e).1;have e2:(if t.2.1=true then b else a)=if u.2.1=true then b else a:=(Prod.mk.inj e).2
   refine hne (Prod.ext e1 ?_);cases q1:t.2.1 <;> cases q2:u.2.1 <;> simp_all
 ·have:=eG (rs:=k.mw.rs) (N:=(List.range 8).map rN) λz hz=>by
   obtain⟨i,hi,e⟩:=r8 z hz;exact xAp.mpr ⟨i,xCh.mpr hi,e.symm⟩
  rwa [xAa,xBu] at this
 ·cases k with
  | never a=>exact⟨by show 1<=200; decide,by show 0<=800; decide,by show 1<=200; decide⟩
  | most a n=>
   have:n<=6:=hk
   simp only[RK.ends,RK.doors,RK.more,List.length_map,List.length_range,List.length_cons,List.length_nil];omega
  | two w a b=>
   refine⟨?_,?_,by show 0<=200; decide⟩
   ·simp only[RK.ends];split <;> decide
   ·simp only[RK.doors,List.length_map];exact (show ∀ w,(tpl w).length<=800 by decide) w
def Rl:Nat->Type
 | 0=>RK ⊕ (Addr×MW)
 | n+1=>RK ⊕ List (Rl n)
def jK:(n:Nat)->Rl n->List Str
 | 0,.inl k=>k.about
 | 0,.inr _=>[]
 | _+1,.inl k=>k.about
 | n+1,.inr l=>l.flatMap (jK n)
def oC:(n:Nat)->Rl n->Nat
 | 0,_=>0
 | _+1,.inl _=>0
 | n+1,.inr l=>1+(l.map (oC n)).foldl max 0
def WfR:(n:Nat)->Rl n->Prop
 | 0,.inl k=>k.Wf
 | 0,.inr _=>True
 | _+1,.inl k=>k.Wf
 | n+1,.inr l=>l.length<=4/\∀ r∈l,WfR n r
def nV:(n:Nat)->Rl n->Nat
 | 0,.inl k=>k.idx
 | 0,.inr _=>7
 | _+1,.inl k=>k.idx
 | _+1,.inr _=>6
def Ev (S:List Str):(n:Nat)->Rl n->MW->Prop
 | 0,.inl k,m=>m=k.mw
 | 0,.inr t,m=>m=t.2
 | _+1,.inl k,m=>m=k.mw
 | n+1,.inr l,m=>∃ ms,Paired (Ev S n) l ms/\∃ kn,(∀ z,z∈kn↔z∈wkn ms)/\m=⟨rN 0,hJ ms S,kn,dR ms S⟩
def uT (S:List Str):(n:Nat)->Rl n->Prop
 | 0,.inl k=>∀ z∈k.about,z∈S
 | 0,.inr t=>MOk S t.2
 | _+1,.inl k=>∀ z∈k.about,z∈S
 | n+1,.inr l=>l≠[]/\(∀ r∈l,uT S n r)/\∀ ms,Paired (Ev S n) l ms->(bU ms S).length<=60
theorem uT.about {S:List Str}:∀ {n:Nat}{r:Rl n},uT S n r->∀ z∈jK n r,z∈S
 | 0,.inl _,h=>h
 | 0,.inr _,_=>λ_ h=>nomatch h
 | _+1,.inl _,h=>h
 | _+1,.inr _,h=>λz hz=>by
  obtain⟨r,hr,hz⟩:=xBs.mp hz;exact uT.about (h.2.1 r hr) z hz
inductive jL (Cs:Nat->Addr)(H:Hp)(x:Addr)(k:RK):Prop
 | mk (dx:Addr)(h:H x=some (.ins (Cs k.idx) dx k.flds))
def RAt (Cs:Nat->Addr)(H:Hp):(n:Nat)->Addr->Rl n->Prop
 | 0,x,.inl k=>jL Cs H x k
 | 0,x,.inr t=>∃ dx,H x=some (.ins (Cs 7) dx [("machine_itself",.ref t.1)])
 | _+1,x,.inl k=>jL Cs H x k
 | n+1,x,.inr l=>∃ dx p as,H x=some (.ins (Cs 6) dx [("rules",.ref p)])/\H p=some (.lst (as.map V.ref))/\Paired (RAt Cs H n) as l
def TAt (CM:Addr)(H:Hp)(dd:Addr):(n:Nat)->Rl n->Prop
 | 0,.inl _=>True
 | 0,.inr t=>MM CM H t.1 dd t.2.b t.2.es t.2.kn t.2.ds
 | _+1,.inl _=>True
 | n+1,.inr l=>∀ r∈l,TAt CM H dd n r
theorem TAt.nt {CM dd:Addr}{H H':Hp}(s:NTb H H'):∀ {n:Nat}{r:Rl n},TAt CM H dd n r->TAt CM H' dd n r
 | 0,.inl _,_=>trivial
 | 0,.inr _,h=>ntM s h
 | _+1,.inl _,_=>trivial
 | _+1,.inr _,h=>λr hr=>TAt.nt s (h r hr)
def Rq:HO->Prop
 | .lst _=>True
 | .ins _ _ (_::_)=>True
 | _=>False
theorem jL.st {Cs:Nat->Addr}{H H':Hp}{x:Addr}{k:RK}(s:∀ b o,H b=some o->Rq o->H' b=some o)(h:jL Cs H x k):jL Cs H' x k:=by
 obtain⟨dx,h⟩:=h;exact⟨dx,s _ _ h (by cases k <;> trivial)⟩
theorem RAt.st {Cs:Nat->Addr}{H H':Hp}(s:∀ b o,H b=some o->Rq o->H' b=some o):∀ {n:Nat}{x:Addr}{r:Rl n},RAt Cs H n x r->RAt Cs H' n x r
 | 0,_,.inl _,h=>jL.st s h
 | 0,_,.inr _,⟨dx,h⟩=>⟨dx,s _ _ h trivial⟩
 | _+1,_,.inl _,h=>jL.st s h
 | n+1,_,.inr _,⟨dx,p,as,h1,h2,h3⟩=>⟨dx,p,as,s _ _ h1 trivial,s _ _ h2 trivial,L2.Paired.mapP h3 λ_ _ z=>RAt.st s z⟩
theorem RAt.nt {Cs:Nat->Addr}{H H':Hp}(s:NTb H H'){n:Nat}{x:Addr}{r:Rl n}(h:RAt Cs H n x r):RAt Cs H' n x r:=h.st λb o e q=>s b o e (by cases o <;> first | trivial | exact q)
theorem aP.nt {H H':Hp}(s:aP H H'):NTb H H':=λb o e _=>s b o e
abbrev tQ:List Str:=["about","deep","machine"]
theorem pQ (k:RK):∀ m∈tQ,k.flds.lookup m=none:=by
 have h:∀ m∈tQ,(m==("deed" : Str))=false/\(m==("many" : Str))=false/\(m==("one" : Str))=false/\(m==("other" : Str))=false:=by decide +kernel
 intro m hm;obtain⟨h1,h2,h3,h4⟩:=h m hm;cases k <;> simp only[RK.flds,List.lookup,h1,h2,h3,h4]
theorem nN (p:Addr):∀ m∈tQ,([("rules",.ref p)]:List (Str×V)).lookup m=none:=by
 have h:∀ m∈tQ,(m==("rules" : Str))=false:=by decide +kernel
 intro m hm;simp only[List.lookup,h m hm]
theorem vI (p:Addr):∀ m∈tQ,([("machine_itself",.ref p)]:List (Str×V)).lookup m=none:=by
 have h:∀ m∈tQ,(m==("machine_itself" : Str))=false:=by decide +kernel
 intro m hm;simp only[List.lookup,h m hm]
theorem RAt.ins {Cs:Nat->Addr}{H:Hp}:∀ {n:Nat}{x:Addr}{r:Rl n},RAt Cs H n x r->∃ dx fl,H x=some (.ins (Cs (nV n r)) dx fl)/\∀ m∈tQ,fl.lookup m=none
 | 0,_,.inl k,⟨dx,h⟩=>⟨dx,_,h,pQ k⟩
 | 0,_,.inr t,⟨dx,h⟩=>⟨dx,_,h,vI t.1⟩
 | _+1,_,.inl k,⟨dx,h⟩=>⟨dx,_,h,pQ k⟩
 | _+1,_,.inr _,⟨dx,p,_,h,_⟩=>⟨dx,_,h,nN p⟩
theorem aHb (k:RK):k.idx<6:=by
 cases k with
 | two w a b=>have:=w.2; show 2+w.1<6; omega
 | never a=>show 0<6; decide
 | most a n=>show 1<6; decide
theorem aFa:∀ {n:Nat}(r:Rl n),nV n r<8
 | 0,.inl k=>by have:=aHb k; show k.idx<8; omega
 | 0,.inr _=>by show 7<8; decide
 | _+1,.inl k=>by have:=aHb k; show k.idx<8; omega
 | _+1,.inr _=>by show 6<8; decide
inductive aMk:(n:Nat)->Rl n->RK->Prop
 | zero (k:RK):aMk 0 (.inl k) k
 | succ (n:Nat) (k:RK):aMk (n+1) (.inl k) k
theorem zC:∀ {n:Nat}{r:Rl n},nV n r<6->∃ k,aMk n r k
 | 0,.inl k,_=>⟨k,.zero k⟩
 | 0,.inr _,h=>xAz h (by show ¬ 7<6; decide)
 | n+1,.inl k,_=>⟨k,.succ n k⟩
 | _+1,.inr _,h=>xAz h (by show ¬ 6<6; decide)
theorem aDi:∀ {n:Nat}{r:Rl (n+1)},nV (n+1) r=6->∃ l,r=.inr l
 | _,.inl k,h=>xAz (show k.idx=6 from h) (xBi (aHb k))
 | _,.inr l,_=>⟨l,rfl⟩
theorem aRp (r:Rl 0):nV 0 r≠6:=by
 cases r with
 | inl k=>exact xBi (aHb k)
 | inr t=>exact (by decide:7≠6)
theorem aDt:∀ {n:Nat}{r:Rl n},nV n r=7->n=0
 | 0,_,_=>rfl
 | _+1,.inl k,h=>xAz (show k.idx=7 from h) (by have:=aHb k; omega)
 | _+1,.inr _,h=>xAz (show 6=7 from h) (by decide)
theorem yG:∀ {r:Rl 0},nV 0 r=7->∃ t,r=.inr t
 | .inl k,h=>xAz (show k.idx=7 from h) (by have:=aHb k; omega)
 | .inr t,_=>⟨t,rfl⟩
theorem rK:∀ {n:Nat}{r:Rl n},WfR n r->(jK n r).length<=2*4^n
 | 0,.inl (.never _),_=>by show 1<=2; decide
 | 0,.inl (.most _ _),_=>by show 1<=2; decide
 | 0,.inl (.two _ _ _),_=>by show 2<=2; decide
 | 0,.inr _,_=>xBr _
 | n+1,.inl k,_=>by
  have h:(k.about).length<=2:=by cases k <;> (first | (show 1<=2; decide) | (show 2<=2; decide))
  have:0<4^(n+1):=Nat.pow_pos (by decide)
  exact xAn h (by omega)
 | n+1,.inr l,h=>by
  have:=kG (k:=2*4^n) (l:=l) (f:=jK n) λr hr=>rK (h.2 r hr)
  have h4:l.length<=4:=h.1;show (l.flatMap (jK n)).length<=_
  have:2*4^n*l.length<=2*4^n*4:=xGq _ h4
  rw[Nat.pow_succ];omega
end K35
namespace K35
open PySem L2 Ky PySem.W
seal L2.PE L2.PS L2.PSs L2.PA L2.PT L2.PW L2.PG L2.PI L2.PTs L2.OpR L2.IxR L2.CallR L2.MtM L2.MtR
unseal L2.MtM L2.MtR
structure jM (K:xAb)(C:Addr):Prop where
 cl:Cls K C
 n1:dD K C "deed"
 n2:dD K C "many"
 n3:dD K C "one"
 n4:dD K C "other"
def isT:V->Bool
 | .int n=>decide (0<=n)&&decide (n<=6)
 | _=>false
inductive Tm:V->Prop
 | int (n:Int):Tm (.int n)
 | bl (b:Bool):Tm (.bl b)
 | non:Tm .non
 | str (z:Str):Tm (.str z)
inductive aDw (vs:List V)(H:Hp)(Q:VK)(E:XK):Prop
 | mk (v:V)(h0_:vs=[v])(h1_:Tm v)(h2_:Q (.bl (isT v)) H)
inductive yO (C:Addr)(vs:List V)(H:Hp)(Q:VK)(E:XK):Prop
 | mk (x dx:Addr)(a:Str)(h0_:vs=[.ref x,.str a])(h1_:H x=some (.ins C dx []))(h2_:∀ H',SameBut x H H'->H' x=some (.ins C dx [("deed",.str a)])->Q .non H')
inductive wQ (C cN:Addr)(vs:List V)(H:Hp)(Q:VK)(E:XK):Prop
 | mk (x dx:Addr)(a:Str)(v:V)(h0_:vs=[.ref x,.str a,v])(hn:Tm v)(h1_:H x=some (.ins C dx []))(h2_:∀ n:Nat,v=.int n->n<=6->∀ H',SameBut x H H'->H' x=some (.ins C dx [("deed",.str a),("many",.int n)])->Q .non H')(h3_:isT v=false->E (.ref cN) none H)
inductive iZ (K:xAb)(cN:Addr)(vs:List V)(H:Hp)(Q:VK)(E:XK):Prop
 | mk (x dx C:Addr)(a b:Str)(h0_:vs=[.ref x,.str a,.str b])(hC:jM K C)(h1_:H x=some (.ins C dx []))(h2_:a≠b->∀ H',SameBut x H H'->H' x=some (.ins C dx [("one",.str a),("other",.str b)])->Q .non H')(h3_:a=b->E (.ref cN) none H)
section
variable {P:Program}{w:World}{K:xAb}{mg:xSO}{base:Heap}
theorem aWe:aR ["thing"] ["thing"] (aB aBl):=xfs
theorem aJt {f:Addr}{fd:FuncData}(F:Fun K "is_times" "is_times" aBl f fd)(T:Txt K mg)(m6:∃ t,mg "MOST_TIMES" = some (.int 6 t)):aQ P w K mg base CX0 1 f fd ["thing"] aDw:=by
 obtain⟨t6,m6⟩:=m6;refine F.ok aWe (λvs H Q E h=>?_) (λcdv A outer s H vs Q E hr h=>?_)
 ·obtain⟨v,rfl,_⟩:=h;rfl
 ·obtain⟨v,rfl,hv,q⟩:=h
  refine⟨_,aM (aU (qP (cB uN (by rfl) T.isi Bo.isinstance (pac (pv 0) (pac (xG (v:=.ty "int") (by rfl) T.int Bo.int rfl) aF)))
   (qP (aRf (cB uN (by rfl) T.isi Bo.isinstance (pac (pv 0) (pac (xG (v:=.ty "bool") (by rfl) T.bool Bo.bool rfl) aF))))
   (qO (aJl aPr aPr aN (pv 0) (hG (v:=.int 6) (by rfl) m6 ⟨_,rfl⟩)))))),?_⟩
  cases hv with
  | int n=>
   refine⟨_,rfl,.int n,.ty "int",.type "int",.type "int",true,rfl,lP,jY.int n,rfl,_,rfl,gX ?_⟩;refine⟨_,rfl,.int n,.ty "bool",.type "bool",.type "int",false,rfl,lP,jY.int n,rfl,_,rfl,_,rfl,gX ?_⟩;refine⟨_,rfl,_,_,rfl,rfl,_,rfl,?_⟩;have q:Q (.bl (decide (0<=n)&&decide (n<=6))) H:=q
   by_cases h:(0:Int)<=n
   ·rw[xAk h,xFc] at q;rw[xAu (xAk h)];exact⟨_,_,rfl,rfl,q⟩
   ·rw[xBb h,xEr] at q;rw[xAt (λz=>h (xAg z))];exact q
  | bl b=>exact⟨_,rfl,.bl b,.ty "int",.type "int",.type "bool",true,rfl,lP,jY.bl b,rfl,_,rfl,gX ⟨_,rfl,.bl b,.ty "bool",.type "bool",.type "bool",true,rfl,lP,jY.bl b,rfl,_,rfl,_,rfl,fX q⟩⟩
  | non=>exact⟨_,rfl,.non,.ty "int",.type "int",.type "NoneType",false,rfl,lP,jY.non,rfl,_,rfl,fX q⟩
  | str z=>exact⟨_,rfl,.str z,.ty "int",.type "int",.type "str",false,rfl,lP,jY.str z,rfl,_,rfl,fX q⟩
theorem aWj:aR ["self","deed"] ["self","deed"] (aB aLb):=xfs
theorem aKa {f C:Addr}{fd:FuncData}(F:Fun K "__init__" "Never.__init__" aLb f fd)(RC:jM K C):aQ P w K mg base CX0 1 f fd ["self","deed"] (yO C):=by
 refine F.ok aWj (λvs H Q E h=>?_) (λcdv A outer s H vs Q E hr h=>?_)
 ·obtain⟨x,dx,a,rfl,_⟩:=h;rfl
 ·obtain⟨x,dx,a,rfl,hx,q⟩:=h;refine⟨_,aM (gL (pv 0) (pv 1) rfl),?_⟩;exact⟨_,rfl,_,rfl,x,C,dx,[],rfl,hx,RC.cl,RC.n1,by decide,q _ (λb o n e=>by rw[aL n]; exact e) aE⟩
theorem aTm:aR ["self","deed","many"] ["self","deed","many"] (aB aKw):=xfs
theorem aOk {v:V}(hv:Tm v)(h:isT v=true):∃ n:Nat,v=.int n/\n<=6:=by
 cases hv with
 | int n=>
  unfold isT at h;have h1:=xAg (xDl.mp h).1;have h2:=xAg (xDl.mp h).2;exact⟨n.toNat,by rw[Int.toNat_of_nonneg h1],by omega⟩
 | _=>cases h
theorem aJx {f fT C cN:Addr}{fd fdT:FuncData}(F:Fun K "__init__" "Most.__init__" aKw f fd)(RC:jM K C)(mN:mg "NoRule" = some (.ref cN))(xN:nA K cN)
  (GT:aQ P w K mg base CX0 1 fT fdT ["thing"] aDw)(kT:keepIn K (.ref fT)=true)(bT:aX K fdT ["thing"] [])(mT:mg "is_times" = some (.ref fT)):aQ P w K mg base (CXE P w) 2 f fd ["self","deed","many"] (wQ C cN):=by
 refine okE F aTm (λvs H Q E h=>?_) (λcdv A outer s H vs Q E hr h D=>?_)
 ·obtain⟨x,dx,a,n,rfl,_⟩:=h;rfl
 ·obtain⟨x,dx,a,v,rfl,hv,hx,q,qe⟩:=h;refine⟨_,aJ (cK (jC (jW (bX GT hr rfl mT kT bT .nil bZ (pac (pv 2) aF)))) (aM (eZ D rfl (by rfl) mN xN (pac aO aF))) bS) (aJ (gL (pv 0) (pv 1) rfl) (aM (gL (pv 0) (pv 2) rfl))),?_⟩;refine⟨_,rfl,v,rfl,hv,_,rfl,?_⟩;cases hT:isT v with
  | false=>exact gX ⟨by show 1<=sizeLine; decide,qe hT⟩
  | true=>
   obtain⟨n,rfl,hn⟩:=aOk hv hT;refine fX ⟨_,rfl,_,rfl,x,C,dx,[],rfl,hx,RC.cl,RC.n1,by decide,?_⟩;exact⟨_,rfl,_,rfl,x,C,dx,_,rfl,aE,RC.cl,RC.n2,by show 1<1000; decide,q n rfl hn _ (λb o n e=>by rw[aL n,aL n]; exact e) aE⟩
theorem aTh:aR ["self","one","other"] ["self","one","other"] (aB aIf):=xfs
theorem aJu {f cN:Addr}{fd:FuncData}(F:Fun K "__init__" "OfTwo.__init__" aIf f fd)(mN:mg "NoRule" = some (.ref cN))(xN:nA K cN):aQ P w K mg base (CXE P w) 1 f fd ["self","one","other"] (iZ K cN):=by
 refine okE F aTh (λvs H Q E h=>?_) (λcdv A outer s H vs Q E hr h D=>?_)
 ·obtain⟨x,dx,C,a,b,rfl,_⟩:=h;rfl
 ·obtain⟨x,dx,C,a,b,rfl,RC,hx,q,qe⟩:=h;refine⟨_,aJ (cK (aV eC (pv 1) (pv 2) (bC _)) (aM (eZ D rfl (by rfl) mN xN (pac aO aF))) bS) (aJ (gL (pv 0) (pv 1) rfl) (aM (gL (pv 0) (pv 2) rfl))),?_⟩;refine⟨_,rfl,_,rfl,rfl,_,rfl,eI (λz=>⟨by show 1<=sizeLine; decide,qe (V.str.inj (xAg z))⟩) λz=>?_⟩;refine⟨_,rfl,_,rfl,x,C,dx,[],rfl,hx,RC.cl,RC.n3,by decide,?_⟩;exact⟨_,rfl,_,rfl,x,C,dx,_,rfl,aE,RC.cl,RC.n4,by show 1<1000; decide,q (λe=>z (xAk (congrArg V.str e))) _ (λb o n e=>by rw[aL n,aL n]; exact e) aE⟩
structure aMj (P:Program)(w:World)(K:xAb)(mg:xSO)(base:Heap)(CT fT cN:Addr)(fdT:FuncData):Prop where
 m:mg "OfTwo"=some (.ref CT)
 s:specialIn K (.ref CT) "__getattribute__" = some (some (.builtin "type.__getattribute__"))
 r:readsIn K CT (.type "type")=true
 f:findCls K (.ref CT) (.type "type") "__init__" = some (.val (.ref fT))
 h:handedIn (.ref fT)=true
 k:keepIn K (.ref fT)=true
 G:aQ P w K mg base (CXE P w) 1 fT fdT ["self","one","other"] (iZ K cN)
 b:aX K fdT ["self","one","other"] []
theorem aTg:aR ["self","first","later"] ["self","first","later"] (aB aMh):=xfs
theorem aKr {f CT fT cN:Addr}{fd fdT:FuncData}(F:Fun K "__init__" "Ahead.__init__" aMh f fd)(W:aMj P w K mg base CT fT cN fdT):aQ P w K mg base (CXE P w) 2 f fd ["self","first","later"] (iZ K cN):=by
 refine okE F aTg (λvs H Q E h=>?_) (λcdv A outer s H vs Q E hr h D=>?_)
 ·obtain⟨x,dx,C,a,b,rfl,_⟩:=h;rfl
 ·exact⟨_,aM (dA (sL (by rfl) W.m W.s W.r W.f W.h W.k W.G hr W.b (D.passes λ_ _ _ z=>z) (pac (pv 0) (pac (pv 1) (pac (pv 2) aF))))),by
   obtain⟨x,dx,C,a,b,rfl,RC,hx,q,qe⟩:=h;exact⟨_,rfl,_,rfl,_,rfl,x,dx,C,a,b,rfl,RC,hx,q,qe⟩⟩
theorem aTd:aR ["self","one","other"] ["self","one","other"] (aB aIb):=xfs
theorem aJs {f CT fT cN:Addr}{fd fdT:FuncData}(F:Fun K "__init__" "Turns.__init__" aIb f fd)(W:aMj P w K mg base CT fT cN fdT):aQ P w K mg base (CXE P w) 2 f fd ["self","one","other"] (iZ K cN):=by
 refine okE F aTd (λvs H Q E h=>?_) (λcdv A outer s H vs Q E hr h D=>?_)
 ·obtain⟨x,dx,C,a,b,rfl,_⟩:=h;rfl
 ·exact⟨_,aM (dA (sL (by rfl) W.m W.s W.r W.f W.h W.k W.G hr W.b (D.passes λ_ _ _ z=>z) (pac (pv 0) (pac (pv 1) (pac (pv 2) aF))))),by
   obtain⟨x,dx,C,a,b,rfl,RC,hx,q,qe⟩:=h;exact⟨_,rfl,_,rfl,_,rfl,x,dx,C,a,b,rfl,RC,hx,q,qe⟩⟩
theorem aTf:aR ["self","deed","other"] ["self","deed","other"] (aB aLq):=xfs
theorem aKl {f CT fT cN:Addr}{fd fdT:FuncData}(F:Fun K "__init__" "Hold.__init__" aLq f fd)(W:aMj P w K mg base CT fT cN fdT):aQ P w K mg base (CXE P w) 2 f fd ["self","deed","other"] (iZ K cN):=by
 refine okE F aTf (λvs H Q E h=>?_) (λcdv A outer s H vs Q E hr h D=>?_)
 ·obtain⟨x,dx,C,a,b,rfl,_⟩:=h;rfl
 ·exact⟨_,aM (dA (sL (by rfl) W.m W.s W.r W.f W.h W.k W.G hr W.b (D.passes λ_ _ _ z=>z) (pac (pv 0) (pac (pv 1) (pac (pv 2) aF))))),by
   obtain⟨x,dx,C,a,b,rfl,RC,hx,q,qe⟩:=h;exact⟨_,rfl,_,rfl,_,rfl,x,dx,C,a,b,rfl,RC,hx,q,qe⟩⟩
theorem aQr:aR ["self","deed","other"] ["self","deed","other"] (aB aDl):=xfs
theorem aGr {f CT fT cN:Addr}{fd fdT:FuncData}(F:Fun K "__init__" "Answer.__init__" aDl f fd)(W:aMj P w K mg base CT fT cN fdT):aQ P w K mg base (CXE P w) 2 f fd ["self","deed","other"] (iZ K cN):=by
 refine okE F aQr (λvs H Q E h=>?_) (λcdv A outer s H vs Q E hr h D=>?_)
 ·obtain⟨x,dx,C,a,b,rfl,_⟩:=h;rfl
 ·exact⟨_,aM (dA (sL (by rfl) W.m W.s W.r W.f W.h W.k W.G hr W.b (D.passes λ_ _ _ z=>z) (pac (pv 0) (pac (pv 1) (pac (pv 2) aF))))),by
   obtain⟨x,dx,C,a,b,rfl,RC,hx,q,qe⟩:=h;exact⟨_,rfl,_,rfl,_,rfl,x,dx,C,a,b,rfl,RC,hx,q,qe⟩⟩
inductive jZ (Cs:Nat->Addr)(i:Nat)(vs:List V)(H:Hp)(Q:VK)(E:XK):Prop
 | mk (x:Addr)(k:RK)(h0_:vs=[.ref x])(hi:k.idx=i)(h1_:jL Cs H x k)(h2_:∀ l,H l=none->Q (.ref l) (upd H l (.lst (k.about.map V.str))))
theorem aWk:aR ["self"] ["self"] (aB aCp):=xfs
theorem aGh {f:Addr}{fd:FuncData}{Cs:Nat->Addr}(F:Fun K "about" "Never.about" aCp f fd)(RC:jM K (Cs 0)):aQ P w K mg base CX0 1 f fd ["self"] (jZ Cs 0):=by
 refine F.ok aWk (λvs H Q E h=>?_) (λcdv A outer s H vs Q E hr h=>?_)
 ·obtain⟨x,k,rfl,_⟩:=h;rfl
 ·obtain⟨x,k,rfl,hi,⟨dx,hx⟩,q⟩:=h;refine⟨_,aM (aU (cA (pac (cE (pv 0) rfl) aF))),?_⟩;cases k with
  | never a=>exact⟨_,rfl,x,Cs 0,dx,_,.str a,rfl,hx,RC.cl,RC.n1,rfl,by show 1<=sizeLine; decide,λp hp=>q p hp⟩
  | most a n=>cases hi
  | two w a b=>exact xAz hi (by show ¬ 2+w.1=0; omega)
theorem aWi:aR ["self"] ["self"] (aB aCn):=xfs
theorem aGg {f:Addr}{fd:FuncData}{Cs:Nat->Addr}(F:Fun K "about" "Most.about" aCn f fd)(RC:jM K (Cs 1)):aQ P w K mg base CX0 1 f fd ["self"] (jZ Cs 1):=by
 refine F.ok aWi (λvs H Q E h=>?_) (λcdv A outer s H vs Q E hr h=>?_)
 ·obtain⟨x,k,rfl,_⟩:=h;rfl
 ·obtain⟨x,k,rfl,hi,⟨dx,hx⟩,q⟩:=h;refine⟨_,aM (aU (cA (pac (cE (pv 0) rfl) aF))),?_⟩;cases k with
  | most a n=>exact⟨_,rfl,x,Cs 1,dx,_,.str a,rfl,hx,RC.cl,RC.n1,rfl,by show 1<=sizeLine; decide,λp hp=>q p hp⟩
  | never a=>cases hi
  | two w a b=>exact xAz hi (by show ¬ 2+w.1=1; omega)
theorem aWf:aR ["self"] ["self"] (aB qG):=xfs
theorem aGb {f:Addr}{fd:FuncData}{Cs:Nat->Addr}(v:_root_.Fin 4)(F:Fun K "about" "OfTwo.about" qG f fd)(RC:jM K (Cs (2+v))):aQ P w K mg base CX0 1 f fd ["self"] (jZ Cs (2+v)):=by
 refine F.ok aWf (λvs H Q E h=>?_) (λcdv A outer s H vs Q E hr h=>?_)
 ·obtain⟨x,k,rfl,_⟩:=h;rfl
 ·obtain⟨x,k,rfl,hi,⟨dx,hx⟩,q⟩:=h;refine⟨_,aM (aU (cA (pac (cE (pv 0) rfl) (pac (cE (pv 0) rfl) aF)))),?_⟩;rw[hi] at hx;cases k with
  | two w a b=>exact⟨_,rfl,x,_,dx,_,.str a,rfl,hx,RC.cl,RC.n3,rfl,_,rfl,x,_,dx,_,.str b,rfl,hx,RC.cl,RC.n4,rfl,by show 2<=sizeLine; decide,λp hp=>q p hp⟩
  | never a=>exact xAz hi (by show ¬ 0=2+v.1; omega)
  | most a n=>exact xAz hi (by show ¬ 1=2+v.1; omega)
inductive aEd (vs:List V)(H:Hp)(Q:VK)(E:XK):Prop
 | mk (x:Addr)(h0_:vs=[.ref x])(h1_:Q (.int 0) H)
theorem aWh:aR ["self"] ["self"] (aB pG):=xfs
theorem aJv {f:Addr}{fd:FuncData}(F:Fun K "deep" "Rule.deep" pG f fd):aQ P w K mg base CX0 1 f fd ["self"] aEd:=by
 refine F.ok aWh (λvs H Q E h=>?_) (λcdv A outer s H vs Q E hr h=>?_)
 ·obtain⟨x,rfl,_⟩:=h;rfl
 ·obtain⟨x,rfl,q⟩:=h;exact⟨_,aM (aU aN),q⟩
theorem jD {α β:Type}{F:α->β->Prop}:∀ {l₁:List α}{l₂:List β}{i:Nat}{a:α}{b:β},Paired F l₁ l₂->l₁[i]?=some a->l₂[i]?=some b->F a b
 | _,_,_,_,_,.nil,h,_=>by simp at h
 | _,_,0,_,_,.cons r _,h1,h2=>by cases h1; cases h2; exact r
 | _,_,_+1,_,_,.cons _ t,h1,h2=>jD t (by simpa using h1) (by simpa using h2)
theorem r0e:("r0" : Str)=rN 0/\("r1" : Str)=rN 1:=by decide +kernel
theorem uE (k:RK)(wk:List (Key×V)):((aZ k.doors k.more).map V.str).all (cY wk)=true↔(k.about.all λz=>cY wk (.str z))=true:=by
 rw[xHl,xBj,xBj];exact⟨λh z hz=>h z ((mC k z).mpr hz),λh z hz=>h z ((mC k z).mp hz)⟩
inductive aBg (C CM cD:Addr)(Cs:Nat->Addr)(i:Nat)(vs:List V)(H:Hp)(Q:VK)(E:XK):Prop
 | mk (x dd:Addr)(k:RK)(wk:List (Key×V))(h0_:vs=[.ref x,.ref dd])(hi:k.idx=i)(h1_:jL Cs H x k)(h2_:k.Wf)(h4_:hZ k.about)(h5_:WAt C H dd wk)
  (h7_:¬ (k.about.all λz=>cY wk (.str z))=true->∀ H',aP H H'->E (.ref cD) none H')
  (h6_:(k.about.all λz=>cY wk (.str z))=true->∀ X H',aP H H'->MM CM H' X dd (rN 0) k.ends k.mw.kn k.doors->Q (.ref X) H')
def lit:Nat->Str
 | 0=>"r0"
 | _=>"r1"
def fld:Bool->Str
 | true=>"other"
 | false=>"one"
theorem aLj:∀ i:Nat,i<2->lit i=rN i
 | 0,_=>r0e.1
 | 1,_=>r0e.2
abbrev tDo (K:xAb)(t:Nat×Bool×Nat):TE:=aSo (rL (tC (.str (lit t.1))) (rL (aQi K (aFi 0) (fld t.2.1)) (rL (tC (.str (lit t.2.2))) aBd)))
def aBf (K:xAb):List (Nat×Bool×Nat)->TA
 | []=>aBd
 | d::l=>rL (tDo K d) (aBf K l)
abbrev aVj (H:Hp)(t:Addr)(x:Dr):Prop:=H t=some (.tup [.str x.1,.str x.2.1,.str x.2.2])
theorem aAf {C x dx:Addr}{a b:Str}(RC:jM K C):∀ (L:List (Nat×Bool×Nat)){σ:St}{H:Hp}{Q:List V->Hp->Prop},σ[0]?=some (some (.ref x))->H x=some (.ins C dx [("one",.str a),("other",.str b)])->(∀ t∈L,t.1<2/\t.2.2<2) ->
  (∀ ts H',aP H H'->Paired (aVj H') ts (L.map (dor a b))->Q (ts.map V.ref) H')->aBf K L σ H Q
 | [],_,H,_,_,_,_,q=>q [] H (aP.refl H) .nil
 | (i,c,j)::L,σ,H,Q,h0,hx,hd,q=>by
  obtain⟨h1,h2⟩:=hd _ (.head _);refine⟨_,h0,x,C,dx,_,.str (if c=true then b else a),rfl,hx,RC.cl,by cases c <;> first | exact RC.n3 | exact RC.n4,by cases c <;> rfl,by show 3<=sizeLine; decide,λt ht=>aAf RC L h0 (smu ht _ _ hx) (λd h=>hd d (.tail _ h)) λts H' s hp=>q (t::ts) H' ((smu ht).trans s) (.cons ?_ hp)⟩
  show H' t=some (.tup [.str (rN i),.str (if c=true then b else a),.str (rN j)])
  rw[<- aLj i h1,<- aLj j h2];exact s _ _ aE
theorem mkM {C CM X dX dd e d:Addr}{y:V}{k:RK}{cl:Why->Addr}{wk:List (Key×V)}{H H0:Hp}{Q:VK}{E:XK}(s0:aP H0 H)(hX:H X=none)(hdX:H dX=none)(hk:k.Wf)(hsh:hZ k.about)(hW:WAt C H dd wk)
  (hE:H e=some (.lst (k.ends.map V.str)))(hD:cQ H d k.doors)(hM:(y=.non/\k.more=[])\/∃ m,y=.ref m/\H m=some (.lst (k.more.map V.str)))
  (qe:¬ (k.about.all λz=>cY wk (.str z))=true->∀ H',aP H0 H'->E (.ref (cl .noDeed)) none H')(q:(k.about.all λz=>cY wk (.str z))=true->∀ X H',aP H0 H'->MM CM H' X dd (rN 0) k.ends k.mw.kn k.doors->Q (.ref X) H') :
  lL K C CM cl [.ref X,.ref dd,.str "r0",.ref e,.ref d,y] (upd (upd H dX (.own X)) X (.ins CM dX [])) (λv H2=>v=.non/\Q (.ref X) H2) E:=by
 have k1:aP H (upd (upd H dX (.own X)) X (.ins CM dX [])):=λb o e=>by rw[aL (aI e hX),aL (aI e hdX)]; exact e
 have R:=oH k hk
 refine⟨X,dd,e,d,dX,rN 0,y,k.ends,k.more,k.doors,wk,by rw[r0e.1],aE,eU hW k1,k1 _ _ hE,hD.same k1,?_,R.le,R.nm,λz hz=>hsh z ((mC k z).mp hz),R.ap,by rw[sP]; exact xAn R.few (by decide),
  λz H' s=>qe (λy=>z ((uE k wk).mpr y)) H' (s0.trans (k1.trans s)),λz l e' kk kvs g H' sb M=>⟨rfl,q ((uE k wk).mp z) X H' (λb o e=>sb b o (aI (s0 _ _ e) hX) (k1 b o (s0 _ _ e))) ⟨dX,l,e',kk,kvs,g,M⟩⟩⟩
 rcases hM with h | ⟨m,h1,h2⟩
 ·exact .inl h
 ·exact .inr ⟨m,h1,k1 _ _ h2⟩
structure MkC (P:Program)(w:World)(K:xAb)(mg:xSO)(base:Heap)(C CM fMI:Addr)(cl:Why->Addr)(fdMI:FuncData):Prop where
 G:aQ P w K mg base (CXE P w) 4 fMI fdMI ["self","deeds","begin","ends","doors","more"] (lL K C CM cl)
 k:Mk K CM fMI
 m:mg "Machine"=some (.ref CM)
 b:aX K fdMI ["self","deeds","begin","ends","doors","more"] []
 b1:aX K fdMI ["self","deeds","begin","ends","doors","more"] [.none]
theorem aTe:aR ["self","deeds"] ["self","deeds"] (aB aLa):=xfs
theorem aJz {f fA fMI C CM:Addr}{fd fdA fdMI:FuncData}{cl:Why->Addr}{Cs:Nat->Addr}(F:Fun K "machine" "Never.machine" aLa f fd)(RC:jM K (Cs 0))(M:MkC P w K mg base C CM fMI cl fdMI)
  (GA:aQ P w K mg base CX0 1 fA fdA ["self"] (jZ Cs 0))(bA:aX K fdA ["self"] [])(mA:eE K (Cs 0) "about" fA):aQ P w K mg base (CXE P w) 6 f fd ["self","deeds"] (aBg C CM (cl .noDeed) Cs 0):=by
 refine okE F aTe (λvs H Q E h=>?_) (λcdv A outer s H vs Q E hr h D=>?_)
 ·obtain⟨x,dd,k,wk,rfl,_⟩:=h;rfl
 ·obtain⟨x,dd,k,wk,rfl,hi,⟨dx,hx⟩,hk,hsh,hW,qe,q⟩:=h;have hr1:cM 1 _:=hr.mono (by decide);refine⟨_,aM (aU (dB M.k M.G hr rfl M.m M.b .nil (D.passes λ_ _ _ z=>z) (pac (pv 1) (pac aO (pac (cA (pac aO aF)) (pac (cA aF) (pac (dM (pv 0) RC.cl mA GA hr1 bA .nil bZ) aF))))))),?_⟩;cases k with
  | never a=>
   refine⟨_,rfl,by show 1<=sizeLine; decide,λq1 hq1=>⟨by show 0<=sizeLine; decide,λq2 hq2=>⟨_,rfl,x,dx,_,rfl,smu hq2 _ _ (smu hq1 _ _ hx),pQ (.never a) "about" (by decide),x,.never a,rfl,rfl,⟨dx,smu hq2 _ _ (smu hq1 _ _ hx)⟩,λl hl X dX hX hdX _=>?_⟩⟩⟩;have s3:=(smu (o:=.lst [.str "r0"]) hq1).trans ((smu (o:=.lst []) hq2).trans (smu (o:=.lst [.str a]) hl));refine mkM (k:=.never a) s3 hX hdX hk hsh (eU hW s3) ?_ ⟨[],smu hl _ _ aE,rfl,λi t x h=>nomatch h⟩ (.inr ⟨l,rfl,aE⟩) qe q;refine smu hl _ _ (smu hq2 _ _ ?_);show _=some (HO.lst [V.str (rN 0)]);rw[aE,r0e.1]
  | most a n=>cases hi
  | two w a b=>exact xAz hi (by show ¬ 2+w.1=0; omega)
theorem wN {k:RK}(v:_root_.Fin 4)(h:k.idx=2+v):∃ a b,k=.two v a b:=by
 cases k with
 | never a=>exact xAz h (by show ¬ 0=2+v.1; omega)
 | most a n=>exact xAz h (by show ¬ 1=2+v.1; omega)
 | two w a b=>exact⟨a,b,by rw[Fin.ext (show w.1=v.1 by have:2+w.1=2+v.1:=h; omega)]⟩
theorem sG {C CD CM x dx dd:Addr}{cl:Why->Addr}{a b:Str}{v:_root_.Fin 4}{es:List Str}{wk:List (Key×V)}{H:Hp}{Q:VK}{E:XK}{D:uW}(RC:jM K C)(hx:H x=some (.ins C dx [("one",.str a),("other",.str b)]))(hab:a≠b)(hsh:hZ [a,b])(hW:WAt CD H dd wk)(hes:es=(RK.two v a b).ends)
  (qe:¬ ([a,b].all λz=>cY wk (.str z))=true->∀ H',aP H H'->E (.ref (cl .noDeed)) none H')(q:([a,b].all λz=>cY wk (.str z))=true->∀ X H',aP H H'->MM CM H' X dd (rN 0) (RK.two v a b).ends (RK.two v a b).mw.kn (RK.two v a b).doors->Q (.ref X) H')
  (nx:∀ d H1,(∀ e X dX,H1 e=none->(upd H1 e (.lst (es.map V.str))) X=none->(upd H1 e (.lst (es.map V.str))) dX=none->lL K CD CM cl [.ref X,.ref dd,.str "r0",.ref e,.ref d,.non] (upd (upd (upd H1 e (.lst (es.map V.str))) dX (.own X)) X (.ins CM dX [])) (λv H2=>v=.non/\Q (.ref X) H2) E)->D.nx [some (.ref x),some (.ref dd),some (.ref d)] H1) :
  aMw (aFj (aBf K (tpl v))) (hU 2) D [some (.ref x),some (.ref dd),none] H:=by
 refine aAf RC (tpl v) rfl hx ((show ∀ v,∀ t∈tpl v,t.1<2/\t.2.2<2 by decide) v) λts H1 s1 hp=>⟨?_,λd hd0=>nx d _ λe X dX he hX hdX=>?_⟩
 ·have h1:=Paired.length hp;have h2:=(show ∀ v,(tpl v).length<=4 by decide) v;rw[xAa] at h1 ⊢;exact xAn (by omega) (show 4<=sizeLine by decide)
 ·have s2:aP H1 (upd H1 d (.lst (ts.map V.ref))):=smu hd0;have sd:(upd H1 d (.lst (ts.map V.ref))) d=some (.lst (ts.map V.ref)):=aE;generalize upd H1 d (.lst (ts.map V.ref))=H2 at s2 sd he hX hdX ⊢;have s3:=smu (o:=.lst (es.map V.str)) he;have s4:=s1.trans (s2.trans s3);exact mkM (k:=.two v a b) s4 hX hdX hab hsh (eU hW s4) (by rw[aE,hes]) ⟨ts,s3 _ _ sd,Paired.length hp,λi t x h1 h2=>s3 _ _ (s2 _ _ (jD (F:=aVj H1) hp h1 h2))⟩ (.inl ⟨rfl,rfl⟩) qe q
theorem aPk:aR ["self","deeds","doors"] ["self","deeds"] (aB aMg):=xfs
theorem aKq {f fMI C CM:Addr}{fd fdMI:FuncData}{cl:Why->Addr}{Cs:Nat->Addr}(F:Fun K "machine" "Ahead.machine" aMg f fd)(RC:jM K (Cs 2))(M:MkC P w K mg base C CM fMI cl fdMI):aQ P w K mg base (CXE P w) 6 f fd ["self","deeds"] (aBg C CM (cl .noDeed) Cs 2):=by
 refine okE F aPk (λvs H Q E h=>?_) (λcdv A outer s H vs Q E hr h D=>?_)
 ·obtain⟨x,dd,k,wk,rfl,_⟩:=h;rfl
 ·obtain⟨x,dd,k,wk,rfl,hi,⟨dx,hx⟩,hk,hsh,hW,qe,q⟩:=h
  refine⟨_,aJ (bJ (i:=2) aPk.nd rfl (xAy rfl) (show PE _ _ (aFj (aBf K (tpl 0))) from cA (pac (dL (pac aO (pac (cE (pv 0) rfl) (pac aO aF)))) (pac (dL (pac aO (pac (cE (pv 0) rfl) (pac aO aF)))) (pac (dL (pac aO (pac (cE (pv 0) rfl) (pac aO aF)))) aF)))))
   (aM (aU (dB (dvs:=[.non]) M.k M.G hr rfl M.m M.b1 (.cons rfl .nil) (D.passes λ_ _ _ z=>z) (pac (pv 1) (pac aO (pac (cA (pac aO (pac aO aF))) (pac (pv 2) aF))))))),?_⟩
  obtain⟨a,b,rfl⟩:=wN 0 hi;exact sG (es:=["r0","r1"]) RC hx hk hsh hW (by rw[r0e.1,r0e.2]; rfl) qe q λd H1 h=>⟨_,rfl,by show 2<=sizeLine; decide,λe he=>⟨_,rfl,λX dX hX hdX _=>h e X dX he hX hdX⟩⟩
theorem aPi:aR ["self","deeds","doors"] ["self","deeds"] (aB aIa):=xfs
theorem aJr {f fMI C CM:Addr}{fd fdMI:FuncData}{cl:Why->Addr}{Cs:Nat->Addr}(F:Fun K "machine" "Turns.machine" aIa f fd)(RC:jM K (Cs 3))(M:MkC P w K mg base C CM fMI cl fdMI):aQ P w K mg base (CXE P w) 6 f fd ["self","deeds"] (aBg C CM (cl .noDeed) Cs 3):=by
 refine okE F aPi (λvs H Q E h=>?_) (λcdv A outer s H vs Q E hr h D=>?_)
 ·obtain⟨x,dd,k,wk,rfl,_⟩:=h;rfl
 ·obtain⟨x,dd,k,wk,rfl,hi,⟨dx,hx⟩,hk,hsh,hW,qe,q⟩:=h
  refine⟨_,aJ (bJ (i:=2) aPi.nd rfl (xAy rfl) (show PE _ _ (aFj (aBf K (tpl 1))) from cA (pac (dL (pac aO (pac (cE (pv 0) rfl) (pac aO aF)))) (pac (dL (pac aO (pac (cE (pv 0) rfl) (pac aO aF)))) aF))))
   (aM (aU (dB (dvs:=[.non]) M.k M.G hr rfl M.m M.b1 (.cons rfl .nil) (D.passes λ_ _ _ z=>z) (pac (pv 1) (pac aO (pac (cA (pac aO (pac aO aF))) (pac (pv 2) aF))))))),?_⟩
  obtain⟨a,b,rfl⟩:=wN 1 hi;exact sG (es:=["r0","r1"]) RC hx hk hsh hW (by rw[r0e.1,r0e.2]; rfl) qe q λd H1 h=>⟨_,rfl,by show 2<=sizeLine; decide,λe he=>⟨_,rfl,λX dX hX hdX _=>h e X dX he hX hdX⟩⟩
theorem aPj:aR ["self","deeds","doors"] ["self","deeds"] (aB aLp):=xfs
theorem aKk {f fMI C CM:Addr}{fd fdMI:FuncData}{cl:Why->Addr}{Cs:Nat->Addr}(F:Fun K "machine" "Hold.machine" aLp f fd)(RC:jM K (Cs 4))(M:MkC P w K mg base C CM fMI cl fdMI):aQ P w K mg base (CXE P w) 6 f fd ["self","deeds"] (aBg C CM (cl .noDeed) Cs 4):=by
 refine okE F aPj (λvs H Q E h=>?_) (λcdv A outer s H vs Q E hr h D=>?_)
 ·obtain⟨x,dd,k,wk,rfl,_⟩:=h;rfl
 ·obtain⟨x,dd,k,wk,rfl,hi,⟨dx,hx⟩,hk,hsh,hW,qe,q⟩:=h
  refine⟨_,aJ (bJ (i:=2) aPj.nd rfl (xAy rfl) (show PE _ _ (aFj (aBf K (tpl 2))) from cA (pac (dL (pac aO (pac (cE (pv 0) rfl) (pac aO aF)))) (pac (dL (pac aO (pac (cE (pv 0) rfl) (pac aO aF)))) (pac (dL (pac aO (pac (cE (pv 0) rfl) (pac aO aF)))) aF)))))
   (aM (aU (dB (dvs:=[.non]) M.k M.G hr rfl M.m M.b1 (.cons rfl .nil) (D.passes λ_ _ _ z=>z) (pac (pv 1) (pac aO (pac (cA (pac aO (pac aO aF))) (pac (pv 2) aF))))))),?_⟩
  obtain⟨a,b,rfl⟩:=wN 2 hi;exact sG (es:=["r0","r1"]) RC hx hk hsh hW (by rw[r0e.1,r0e.2]; rfl) qe q λd H1 h=>⟨_,rfl,by show 2<=sizeLine; decide,λe he=>⟨_,rfl,λX dX hX hdX _=>h e X dX he hX hdX⟩⟩
theorem aIs:aR ["self","deeds","doors"] ["self","deeds"] (aB aDk):=xfs
theorem aGq {f fMI C CM:Addr}{fd fdMI:FuncData}{cl:Why->Addr}{Cs:Nat->Addr}(F:Fun K "machine" "Answer.machine" aDk f fd)(RC:jM K (Cs 5))(M:MkC P w K mg base C CM fMI cl fdMI):aQ P w K mg base (CXE P w) 6 f fd ["self","deeds"] (aBg C CM (cl .noDeed) Cs 5):=by
 refine okE F aIs (λvs H Q E h=>?_) (λcdv A outer s H vs Q E hr h D=>?_)
 ·obtain⟨x,dd,k,wk,rfl,_⟩:=h;rfl
 ·obtain⟨x,dd,k,wk,rfl,hi,⟨dx,hx⟩,hk,hsh,hW,qe,q⟩:=h
  refine⟨_,aJ (bJ (i:=2) aIs.nd rfl (xAy rfl) (show PE _ _ (aFj (aBf K (tpl 3))) from cA (pac (dL (pac aO (pac (cE (pv 0) rfl) (pac aO aF)))) (pac (dL (pac aO (pac (cE (pv 0) rfl) (pac aO aF)))) (pac (dL (pac aO (pac (cE (pv 0) rfl) (pac aO aF)))) (pac (dL (pac aO (pac (cE (pv 0) rfl) (pac aO aF)))) aF))))))
   (aM (aU (dB (dvs:=[.non]) M.k M.G hr rfl M.m M.b1 (.cons rfl .nil) (D.passes λ_ _ _ z=>z) (pac (pv 1) (pac aO (pac (cA (pac aO aF)) (pac (pv 2) aF))))))),?_⟩
  obtain⟨a,b,rfl⟩:=wN 3 hi;exact sG (es:=["r0"]) RC hx hk hsh hW (by rw[r0e.1]; rfl) qe q λd H1 h=>⟨_,rfl,by show 1<=sizeLine; decide,λe he=>⟨_,rfl,λX dX hX hdX _=>h e X dX he hX hdX⟩⟩
theorem aJb (m:Nat):(((List.range m).map rN).map V.str).length=m:=by rw[xAa,xAa,xBu]
theorem atR {m i:Nat}(h:i<m){j:Int}(hj:j=i):atI (((List.range m).map rN).map V.str) j=some (.str (rN i)):=by
 have:=gI V.str ((List.range m).map rN) "" (i:=(i:Int)) (by omega) (by rw[xAa,xBu]; omega)
 rw[hj,this,xBl,xDp,xAf,xEk h];rfl
abbrev NoM:List Str:=["self","deeds","rooms","doors"]
theorem aIr:aR NoM ["self","deeds"] (aB zO):=xfs
abbrev nd5:List Str:=["times"]
abbrev nd6:List Str:=["times","rooms","self"]
theorem aJw {f fA fMI C CM:Addr}{fd fdA fdMI:FuncData}{cl:Why->Addr}{Cs:Nat->Addr}(F:Fun K "machine" "Most.machine" zO f fd)(T:Txt K mg)(RC:jM K (Cs 1))(M:MkC P w K mg base C CM fMI cl fdMI)
  (GA:aQ P w K mg base CX0 1 fA fdA ["self"] (jZ Cs 1))(bA:aX K fdA ["self"] [])(mA:eE K (Cs 1) "about" fA):aQ P w K mg base (CXE P w) 6 f fd ["self","deeds"] (aBg C CM (cl .noDeed) Cs 1):=by
 refine okE F aIr (λvs H Q E h=>?_) (λcdv A outer s H vs Q E hr h D=>?_)
 ·obtain⟨x,dd,k,wk,rfl,_⟩:=h;rfl
 ·obtain⟨x,dd,k,wk,rfl,hi,⟨dx,hx⟩,hk,hsh,hW,qe,q⟩:=h;have hr1:cM 1 _:=hr.mono (by decide)
  refine⟨_,aJ (bJ (i:=2) aIr.nd rfl (xEt rfl) (eN (N':=nd5) (nown:=1) (js:=[]) rfl xbs (cJ (aB zO) NoM rfl rfl (by decide +kernel))
    ⟨λ_ _ _ _=>aS (i:=0) (show List.Nodup nd5 by decide +kernel) rfl (xAy rfl) (.inr rfl),λ_ _ _ _=>eV,λ_ _ _ _=>zI aO (xF (pv 0))⟩
    (gW rfl T.range (pac (bV eK (cE (pv 0) rfl) aN) aF))))
   (aJ (gE (i:=3) (N':=nd6) (nown:=1) (js:=[2,0]) rfl aIr.nd rfl rfl rfl xbs (cJ (aB zO) NoM rfl rfl (by decide +kernel))
    ⟨λ_ _ _ _=>aS (i:=0) (show List.Nodup nd6 by decide +kernel) rfl (xAy rfl) (.inr rfl),λ_ _ _ _=>eV,
     λ_ _ _ _=>dL (pac (cG (show IxR _ (sC K) from dG) (pv 1) (pv 0) (λ_ _=>rfl)) (pac (show PE _ _ (aQi K (aFi 2) "deed") from cE (pv 2) rfl) (pac (cG (show IxR _ (sC K) from dG) (pv 1) (bV eK (pv 0) aN) (λ_ _=>rfl)) aF)))⟩
    (gW rfl T.range (pac (cE (pv 0) rfl) aF)))
   (aM (aU (dB M.k M.G hr rfl M.m M.b .nil (D.passes λ_ _ _ z=>z) (pac (pv 1) (pac aO (pac (pv 2) (pac (pv 3) (pac (dM (pv 0) RC.cl mA GA hr1 bA .nil bZ) aF))))))))),?_⟩
  cases k with
  | most a n=>
   have hn:n<=6:=hk;refine⟨_,rfl,x,Cs 1,dx,_,.int n,rfl,hx,RC.cl,RC.n2,rfl,_,_,rfl,rfl,((n+1:Nat):Int),rfl,by omega,by omega,λD hD=>iH (n:=n+1) (lo:=0) (λi σ' H'=>∃ v,σ'=[v]/\H' D=some (.lst (((List.range i).map rN).map V.str))/\aP H H') ?_ ?_ ?_⟩
   ·exact⟨none,rfl,aE,smu hD⟩
   ·rintro i σ' H' hi' ⟨v,rfl,h1,h2⟩;have hl:=(yZ i (by omega)).2;refine⟨_,rfl,by decide +kernel,_,rfl,(0+(i:Int)),rfl,by rw[xEw]; exact qW i (by omega),?_⟩;rw[xEw];refine⟨_,rfl,iL (xAn hl (by decide)),iL (xAn hl (by decide)),_,h1,bO (by rw[aJb]; omega),_,rfl,?_,λb o e=>?_⟩
    ·rw[aE,xCu,xAm,xAm];rfl
    ·rw[aL (aI e hD)];exact h2 _ _ e
   rintro σ' H1 ⟨v,rfl,h1,s1⟩;have hx1:=s1 _ _ hx;refine⟨_,rfl,x,Cs 1,dx,_,.int n,rfl,hx1,RC.cl,RC.n2,rfl,(n:Int),rfl,by omega,by omega,λD2 hD2=>iH (n:=n) (lo:=0) (λi σ' H'=>∃ v,σ'=[v,some (.ref D),some (.ref x)]/\cQ H' D2 ((List.range i).map λi=>(rN i,a,rN (i+1)))/\SameBut D2 H1 H') ?_ ?_ ?_⟩
   ·exact⟨none,rfl,⟨[],aE,rfl,λi t x h=>nomatch h⟩,λb o n e=>by rw[aL n]; exact e⟩
   ·rintro i σ' H' hi' ⟨v,rfl,hd,kp⟩;have hxD:x≠D2:=aI hx1 hD2;have hDD:D≠D2:=aI h1 hD2;refine⟨_,rfl,_,rfl,D,_,_,.str (rN i),rfl,rfl,SqL.of (kp _ _ hDD h1),atR (by omega) (by omega),_,rfl,x,Cs 1,dx,_,.str a,rfl,kp _ _ hxD hx1,RC.cl,RC.n1,rfl,_,rfl,_,rfl,_,_,rfl,rfl,D,_,_,.str (rN (i+1)),rfl,rfl,SqL.of (kp _ _ hDD h1),atR (by omega) (by omega),by show 3<=sizeLine; decide,λt ht=>?_⟩;obtain⟨xs,x0,x1,xd⟩:=hd.push ht (rN i,a,rN (i+1));rw[xAa,xBu] at x1;refine⟨_,smu ht _ _ x0,bO (by omega),_,rfl,?_,λb o n e=>?_⟩
    ·rw[xCu,xAm];exact xd
    ·rw[aL n];exact smu ht _ _ (kp b o n e)
   rintro σ' H2 ⟨v,rfl,hd,kp⟩;have s12:aP H H2:=λb o e=>kp b o (λz=>by rw[z] at e; rw[s1 _ _ e] at hD2; cases hD2) (s1 _ _ e);refine⟨_,rfl,_,rfl,_,rfl,_,rfl,x,dx,_,rfl,s12 _ _ hx,pQ (.most a n) "about" (by decide),x,.most a n,rfl,rfl,⟨dx,s12 _ _ hx⟩,λl hl X dX hX hdX _=>?_⟩;have s3:=s12.trans (smu (o:=.lst [.str a]) hl);exact mkM (k:=.most a n) s3 hX hdX hk hsh (eU hW s3) (smu hl _ _ (kp _ _ (aI h1 hD2) h1)) (hd.same (smu hl)) (.inr ⟨l,rfl,aE⟩) qe q
  | never a=>cases hi
  | two w a b=>exact xAz hi (by show ¬ 2+w.1=1; omega)
theorem aQ.more {P:Program}{w:World}{K:xAb}{mg:xSO}{base:Heap}{CX:CXT}{k k':Nat}{f:Addr}{fd:FuncData}{ps:List Str}{sp:Sp}(G:aQ P w K mg base CX k f fd ps sp)(h:k<=k'):aQ P w K mg base CX k' f fd ps sp:=
 ⟨G.len,λA outer s H args us vs Q E hr=>G.run A outer s H args us vs Q E (hr.mono h)⟩
theorem aQ.none {P:Program}{w:World}{K:xAb}{mg:xSO}{base:Heap}{CX:CXT}{k:Nat}{f:Addr}{fd:FuncData}{ps:List Str}{sp:Sp}(h:∀ vs H Q E,¬ sp vs H Q E):aQ P w K mg base CX k f fd ps sp:=
 ⟨λvs H Q E z=>(h _ _ _ _ z).elim,λA outer s H args us vs Q E _ _ _ _ z=>(h _ _ _ _ z).elim⟩
structure Fam (K:xAb)(Cs:Nat->Addr)(m:Str)(ps:List Str)(fs:_root_.Fin 8->Addr)(fds:_root_.Fin 8->FuncData):Prop where
 c:∀ i:_root_.Fin 8,Cls K (Cs i)
 m:∀ i:_root_.Fin 8,eE K (Cs i) m (fs i)
 b:∀ i,aX K (fds i) ps []
inductive aFl (Cs:Nat->Addr)(n i:Nat)(vs:List V)(H:Hp)(Q:VK)(E:XK):Prop
 | mk (x:Addr)(r:Rl n)(h0_:vs=[.ref x])(h1_:nV n r=i)(h2_:RAt Cs H n x r)(h3_:WfR n r)(h4_:n<=4)(h5_:∀ l H',aP H H'->H l=none->H' l=some (.lst ((jK n r).map V.str))->Q (.ref l) H')
inductive aFk (Cs:Nat->Addr)(n i:Nat)(vs:List V)(H:Hp)(Q:VK)(E:XK):Prop
 | mk (x:Addr)(r:Rl n)(h0_:vs=[.ref x])(h1_:nV n r=i)(h2_:RAt Cs H n x r)(h3_:WfR n r)(h5_:∀ H',aP H H'->Q (.int (oC n r:Nat)) H')
inductive wT (Cs:Nat->Addr)(cT:Addr)(n:Nat)(vs:List V)(H:Hp)(Q:VK)(E:XK):Prop
 | mk (x dx p:Addr)(as:List Addr)(l:List (Rl n))(h0_:vs=[.ref x,.ref p])(h1_:H x=some (.ins (Cs 6) dx []))(h2_:H p=some (.lst (as.map V.ref)))(h3_:Paired (RAt Cs H n) as l)(h4_:∀ r∈l,WfR n r)
  (h5_:4<l.length\/3<oC (n+1) (.inr l)->∀ H',SameBut x H H'->E (.ref cT) none H')
  (h6_:l.length<=4->oC (n+1) (.inr l)<=3->∀ p' H',SameBut x H H'->H' x=some (.ins (Cs 6) dx [("rules",.ref p')])->H' p'=some (.lst (as.map V.ref))->Q .non H')
theorem RAt.same {Cs:Nat->Addr}{H H':Hp}(s:aP H H'){n:Nat}{x:Addr}{r:Rl n}(h:RAt Cs H n x r):RAt Cs H' n x r:=h.nt (aP.nt s)
section
variable {P:Program}{w:World}{K:xAb}{mg:xSO}{base:Heap}{Cs:Nat->Addr}{fs:_root_.Fin 8->Addr}{fds:_root_.Fin 8->FuncData}{n:Nat}
abbrev NLA:List Str:=["self","deeds","rule"]
theorem aQv:aR NLA ["self"] (aB xP):=xfs
theorem aGn (F:Fun K "about" "All.about" xP (fs 6) (fds 6))(na:dD K (Cs 6) "rules")(M:Fam K Cs "about" ["self"] fs fds)(G:∀ i,aQ P w K mg base CX0 (1+n) (fs i) (fds i) ["self"] (aFl Cs n i)):aQ P w K mg base CX0 (1+(n+1)) (fs 6) (fds 6) ["self"] (aFl Cs (n+1) 6):=by
 refine F.ok aQv (λvs H Q E h=>?_) (λcdv A outer s H vs Q E hr h=>?_)
 ·obtain⟨x,r,rfl,_⟩:=h;rfl
 ·obtain⟨x,r,rfl,hc,hR,hwf,hn,q⟩:=h;obtain⟨l,rfl⟩:=aDi hc;obtain⟨dx,p,as,hx,hp,hP⟩:=hR
  refine⟨_,aJ (bJ (i:=1) aQv.nd rfl (xAy rfl) (cA aF)) (aJ (dZ PassesOwn.never rfl (cU (cE (pv 0) rfl)) (aS (i:=2) aQv.nd rfl (xAy rfl))
    (aM (dA (lW xBq xEn xEm nK (pv 1) (pac (vW (Cs:=λi:_root_.Fin 8=>Cs i) (sps:=λi:_root_.Fin 8=>aFl Cs n i) (pv 2) M.c M.m G hr M.b bZ) aF)))))
   (aM (aU (pv 1)))),?_⟩
  refine⟨by show 0<=sizeLine; decide,λD hD=>⟨_,rfl,x,_,dx,_,.ref p,rfl,smu hD _ _ hx,M.c 6,na,rfl,p,rfl,⟨_,SqL.of (smu hD _ _ hp)⟩,?_⟩⟩;refine dE (xs:=as.map V.ref) (λi σ H'=>∃ u,σ=[some (.ref x),some (.ref D),u]/\H' D=some (.lst (((l.take i).flatMap (jK n)).map V.str))/\aP H H') ?_ ?_ ?_ ?_
  ·exact⟨none,rfl,aE,smu hD⟩
  ·rintro i σ H' _ ⟨u,rfl,h1,h2⟩;exact SqL.of (h2 _ _ hp)
  ·rintro i v σ H' hv ⟨u,rfl,h1,h2⟩;rw[xAf] at hv;cases ha:as[i]? with
   | none=>rw[ha] at hv; cases hv
   | some a=>
    rw[ha] at hv;cases hv;have hi:i<l.length:=by rw[<- Paired.length hP]; exact (xAd.mp ha).1
    have hr':=xAe hi;have hm:=xCg hi;generalize l[i]=r at hr' hm;have R:=(jD (F:=RAt Cs H n) hP ha hr').same h2;obtain⟨dy,fl,hy,hl⟩:=R.ins;refine⟨_,rfl,.inl ⟨rfl,_,SqL.of h1⟩,_,rfl,⟨nV n r,aFa r⟩,a,dy,fl,rfl,hy,hl "about" (by decide),a,r,rfl,rfl,R,hwf.2 r hm,by omega,λl2 H2 s2 n2 e2=>?_⟩;have pre:=kG (k:=2*4^n) (l:=l.take i) (f:=jK n) λr hr=>rK (hwf.2 r (List.mem_of_mem_take hr));have one:=rK (hwf.2 r hm);have h4:l.length<=4:=hwf.1;have pw:4^n<=4^3:=Nat.pow_le_pow_right (by decide) (by omega);rw[xBe] at pre
    have:2*4^n*min i l.length<=2*4^n*4:=xGq _ (by omega)
    refine⟨D,l2,_,_,rfl,rfl,s2 _ _ h1,e2,iL (by rw[xAa,xAa]; omega),_,rfl,?_,λb o e=>?_⟩
    ·rw[aE,xBf,hr',xGu,xAm]
     simp
    ·rw[aL (aI e hD)];exact s2 _ _ (h2 _ _ e)
  rintro σ H' ⟨u,rfl,h1,h2⟩;rw[xAa,Paired.length hP,xAx] at h1;exact⟨_,rfl,q D H' h2 hD h1⟩
theorem aTk:aR ["self"] ["self"] (aB xD):=xfs
inductive aTb (vs:List V)(H:Hp)(Q:VK)(E:XK):Prop
 | mk (x:Addr)(h0_:vs=[.ref x])(h1_:∀ l,H l=none->Q (.ref l) (upd H l (.lst [])))
theorem aGf {f:Addr}{fd:FuncData}(F:Fun K "about" "Rule.about" xD f fd):aQ P w K mg base CX0 1 f fd ["self"] aTb:=by
 refine F.ok aTk (λvs H Q E h=>?_) (λcdv A outer s H vs Q E hr h=>?_)
 ·obtain⟨x,rfl,_⟩:=h;rfl
 ·obtain⟨x,rfl,q⟩:=h;exact⟨_,aM (aU (cA aF)),by show 0<=sizeLine; decide,λl hl=>q l hl⟩
theorem nQ (i:_root_.Fin 8):i.1<6\/i=6\/i=7:=by
 by_cases h:i.1<6
 ·exact .inl h
 ·by_cases h7:i.1=7
  ·exact .inr (.inr (Fin.ext h7))
  ·exact .inr (.inl (Fin.ext (by have:=i.2; show i.1=6; omega)))
theorem aSh (G:∀ i:_root_.Fin 8,i.1<6->aQ P w K mg base CX0 1 (fs i) (fds i) ["self"] (jZ Cs i))(F:Fun K "about" "All.about" xP (fs 6) (fds 6))(F7:Fun K "about" "Rule.about" xD (fs 7) (fds 7))(na:dD K (Cs 6) "rules")(M:Fam K Cs "about" ["self"] fs fds):∀ (n:Nat) (i:_root_.Fin 8),aQ P w K mg base CX0 (1+n) (fs i) (fds i) ["self"] (aFl Cs n i):=by
 have pl:∀ (n:Nat) (i:_root_.Fin 8),i.1<6->aQ P w K mg base CX0 (1+n) (fs i) (fds i) ["self"] (aFl Cs n i):=λn i hi=>aQ.weaker (aQ.more (G i hi) (xEh _ _)) λvs H Q E ⟨x,r,e,hc,hR,_,_,q⟩=>by
  obtain⟨k,hp⟩:=zC (r:=r) (by rw[hc]; exact hi);cases hp <;> exact⟨x,k,e,hc,hR,λl hl=>q l _ (smu hl) hl aE⟩
 intro n
 induction n with
 | zero=>
  intro i;rcases nQ i with hi | rfl | rfl
  ·exact pl 0 i hi
  ·exact aQ.none λvs H Q E ⟨x,r,_,hc,_,_,_,_⟩=>aRp r hc
  ·refine aQ.weaker (aGf F7) λvs H Q E ⟨x,r,e,hc,hR,_,_,q⟩=>?_;obtain⟨t,rfl⟩:=yG hc;exact⟨x,e,λl hl=>q l _ (smu hl) hl aE⟩
 | succ n ih=>
  intro i;rcases nQ i with hi | rfl | rfl
  ·exact pl _ i hi
  ·exact aGn F na M ih
  ·exact aQ.none λvs H Q E ⟨x,r,_,hc,_,_,_,_⟩=>(nomatch aDt hc)
theorem aWu:aR ["self"] ["self"] (aB aAc):=xfs
abbrev ndl:List Str:=["rule"]
theorem aKi (F:Fun K "deep" "All.deep" aAc (fs 6) (fds 6))(na:dD K (Cs 6) "rules")(mM:mg "max" = none)(M:Fam K Cs "deep" ["self"] fs fds)(G:∀ i,aQ P w K mg base CX0 (1+n) (fs i) (fds i) ["self"] (aFk Cs n i)):aQ P w K mg base CX0 (1+(n+1)) (fs 6) (fds 6) ["self"] (aFk Cs (n+1) 6):=by
 refine F.ok aWu (λvs H Q E h=>?_) (λcdv A outer s H vs Q E hr h=>?_)
 ·obtain⟨x,r,rfl,_⟩:=h;rfl
 ·obtain⟨x,r,rfl,hc,hR,hwf,q⟩:=h;obtain⟨l,rfl⟩:=aDi hc;obtain⟨dx,p,as,hx,hp,hP⟩:=hR
  refine⟨_,aM (aU (bV eK aN (aNo rfl (by rfl) mM (eN (N':=ndl) (nown:=1) (js:=[]) rfl xbs (cJ (aB aAc) ["self"] rfl rfl (by decide +kernel))
    ⟨λ_ _ _ _=>aS (i:=0) (show List.Nodup ndl by decide +kernel) rfl (xAy rfl) (.inr rfl),λ_ _ _ _=>eV,λ_ _ _ _=>vW (Cs:=λi:_root_.Fin 8=>Cs i) (sps:=λi:_root_.Fin 8=>aFk Cs n i) (pv 0) M.c M.m G hr M.b bZ⟩
    (cU (cE (pv 0) rfl)))))),?_⟩
  refine⟨_,rfl,x,_,dx,_,.ref p,rfl,hx,M.c 6,na,rfl,p,rfl,⟨_,SqL.of hp⟩,λD hD=>hV (xs:=as.map V.ref) (λi σ' H'=>∃ u,σ'=[u]/\H' D=some (.lst (((l.take i).map (oC n)).map λ(m:Nat)=>V.int (m:Int)))/\aP H H') ?_ ?_ ?_ ?_⟩
  ·exact⟨none,rfl,aE,smu hD⟩
  ·rintro i σ H' _ ⟨u,rfl,h1,h2⟩;exact SqL.of (h2 _ _ hp)
  ·rintro i v σ H' hv ⟨u,rfl,h1,h2⟩;rw[xAf] at hv;cases ha:as[i]? with
   | none=>rw[ha] at hv; cases hv
   | some a=>
    rw[ha] at hv;cases hv;have hi:i<l.length:=by rw[<- Paired.length hP]; exact (xAd.mp ha).1
    have hr':=xAe hi;have hm:=xCg hi;generalize l[i]=r at hr' hm;have R:=(jD (F:=RAt Cs H n) hP ha hr').same h2;obtain⟨dy,fl,hy,hl⟩:=R.ins;have h4:l.length<=4:=hwf.1;refine⟨_,rfl,⟨nV n r,aFa r⟩,a,dy,fl,rfl,hy,hl "deep" (by decide),a,r,rfl,rfl,R,hwf.2 r hm,λH2 s2=>⟨_,s2 _ _ h1,bO (by rw[xAa,xAa,xBe]; omega),_,rfl,?_,λb o e=>?_⟩⟩
    ·rw[aE,xBf,hr',xAm,xAm];rfl
    ·rw[aL (aI e hD)];exact s2 _ _ (h2 _ _ e)
  rintro σ H' ⟨u,rfl,h1,h2⟩;rw[xAa,Paired.length hP,xAx] at h1;refine⟨D,_,rfl,SqL.of h1,_,_,rfl,rfl,?_⟩
  have:=q H' h2
  rw[show ((oC (n+1) (.inr l):Nat):Int)=1+(((l.map (oC n)).foldl max 0:Nat):Int) from by show ((1+_:Nat):Int)=_; omega] at this
  exact this
theorem aUr:∀ {n:Nat}{r:Rl n},nV n r≠6->oC n r=0
 | 0,_,_=>rfl
 | _+1,.inl _,_=>rfl
 | _+1,.inr _,h=>xAz rfl h
theorem aUq (G:∀ i:_root_.Fin 8,i≠6->aQ P w K mg base CX0 1 (fs i) (fds i) ["self"] aEd)(F:Fun K "deep" "All.deep" aAc (fs 6) (fds 6))(na:dD K (Cs 6) "rules")(mM:mg "max" = none)(M:Fam K Cs "deep" ["self"] fs fds):∀ (n:Nat) (i:_root_.Fin 8),aQ P w K mg base CX0 (1+n) (fs i) (fds i) ["self"] (aFk Cs n i):=by
 have pl:∀ (n:Nat) (i:_root_.Fin 8),i≠6->aQ P w K mg base CX0 (1+n) (fs i) (fds i) ["self"] (aFk Cs n i):=λn i hi=>aQ.weaker (aQ.more (G i hi) (xEh _ _)) λvs H Q E ⟨x,r,e,hc,hR,_,q⟩=>by
  have:=q H (aP.refl H)
  rw[aUr (r:=r) (by rw[hc]; exact λz=>hi (Fin.ext z))] at this;exact⟨x,e,this⟩
 intro n
 induction n with
 | zero=>
  intro i
  by_cases hi:i=6
  ·subst hi;exact aQ.none λvs H Q E ⟨x,r,_,hc,_,_,_⟩=>aRp r hc
  ·exact pl 0 i hi
 | succ n ih=>
  intro i
  by_cases hi:i=6
  ·subst hi;exact aKi F na mM M ih
  ·exact pl _ i hi
theorem aWt:aR ["self","rules"] ["self","rules"] (aB aLm):=xfs
theorem aKh {f cT:Addr}{fd:FuncData}(F:Fun K "__init__" "All.__init__" aLm f fd)(T:Txt K mg)(na:dD K (Cs 6) "rules")(m4:∃ t,mg "MOST_RULES" = some (.int 4 t))(m3:∃ t,mg "MOST_DEEP" = some (.int 3 t))(mTM:mg "TooMany" = some (.ref cT))(xTM:nA K cT)
  (M:Fam K Cs "deep" ["self"] fs fds)(G:∀ (n:Nat) (i:_root_.Fin 8),aQ P w K mg base CX0 (1+n) (fs i) (fds i) ["self"] (aFk Cs n i))(n:Nat):aQ P w K mg base (CXE P w) (3+n) f fd ["self","rules"] (wT Cs cT n):=by
 obtain⟨t4,m4⟩:=m4;obtain⟨t3,m3⟩:=m3;rw[show 3+n=(1+(n+1))+1 by omega];refine okE F aWt (λvs H Q E h=>?_) (λcdv A outer s H vs Q E hr h D=>?_)
 ·obtain⟨x,dx,p,as,l,rfl,_⟩:=h;rfl
 ·obtain⟨x,dx,p,as,l,rfl,hx,hp,hP,hwf,qe,q⟩:=h
  refine⟨_,aJ (cK (aV pJ (cB cL (by rfl) T.len Bo.len (pac (pv 1) aF)) (hG (v:=.int 4) (by rfl) m4 ⟨_,rfl⟩) (bC _)) (aM (eZ D rfl (by rfl) mTM xTM (pac aO aF))) bS)
   (aJ (gL (pv 0) (iE pW (by rfl) T.list Bo.list (pac (pv 1) aF)) rfl)
   (aM (cK (aV pJ (dM (pv 0) (M.c 6) (M.m 6) (G (n+1) 6) hr (M.b 6) .nil bZ) (hG (v:=.int 3) (by rfl) m3 ⟨_,rfl⟩) (bC _)) (aM (eZ D rfl (by rfl) mTM xTM (pac aO aF))) bS))),?_⟩
  have ll:(as.map V.ref).length=l.length:=by rw[xAa]; exact Paired.length hP
  refine⟨_,rfl,p,_,rfl,.inl (SqL.of hp),_,_,rfl,rfl,_,rfl,eI (λz=>⟨by show 1<=sizeLine; decide,qe (.inl (by have:=xAg z; rw[ll] at this; omega)) H λb o _ e=>e⟩) λz=>?_⟩
  have h4:l.length<=4:=by
   rw[ll] at z
   have:¬ ((l.length:Int)>4):=λy=>z (xAk y)
   omega
  refine⟨_,rfl,p,_,rfl,.inl (SqL.of hp),λp' hp'=>⟨_,rfl,x,_,dx,[],rfl,smu hp' _ _ hx,M.c 6,na,by decide,?_⟩⟩;have nx:p'≠x:=λz=>by rw[z,hx] at hp'; cases hp'
  have sb:SameBut x H (upd (upd H p' (.lst (as.map V.ref))) x (.ins (Cs 6) dx (gO "rules" (.ref p') []))):=λb o n e=>by rw[aL n]; exact smu hp' _ _ e
  have ex:(upd (upd H p' (.lst (as.map V.ref))) x (.ins (Cs 6) dx (gO "rules" (.ref p') []))) x=some (.ins (Cs 6) dx [("rules",.ref p')]):=aE;have ep:(upd (upd H p' (.lst (as.map V.ref))) x (.ins (Cs 6) dx (gO "rules" (.ref p') []))) p'=some (.lst (as.map V.ref)):=by rw[aL nx,aE]
  generalize upd (upd H p' (.lst (as.map V.ref))) x (.ins (Cs 6) dx (gO "rules" (.ref p') []))=H2 at sb ex ep ⊢;have R2:RAt Cs H2 (n+1) x (.inr l):=⟨dx,p',as,ex,ep,L2.Paired.mapP hP λa r h=>h.st λb o e hq=>sb b o (λz=>by rw[z,hx] at e; cases e; exact hq) e⟩;refine⟨_,rfl,x,dx,_,rfl,ex,nN p' "deep" (by decide),x,.inr l,rfl,rfl,R2,⟨h4,hwf⟩,λH3 s3=>⟨_,_,rfl,rfl,_,rfl,eI (λz=>⟨by show 1<=sizeLine; decide,qe (.inr (by have:=xAg z; omega)) H3 λb o n e=>s3 _ _ (sb b o n e)⟩) λz=>?_⟩⟩;exact q h4 (by have:¬ ((oC (n+1) (.inr l):Int)>3):=λy=>z (xAk y); omega) p' H3 (λb o n e=>s3 _ _ (sb b o n e)) (s3 _ _ ex) (s3 _ _ ep)
end
theorem Paired.snoc {α β:Type}{F:α->β->Prop}:∀ {l₁:List α}{l₂:List β}{a:α}{b:β},Paired F l₁ l₂->F a b->Paired F (l₁++[a]) (l₂++[b])
 | _,_,_,_,.nil,h=>.cons h .nil
 | _,_,_,_,.cons r t,h=>.cons r (Paired.snoc t h)
structure SOk (S:List Str):Prop where
 le:S.length<=12
 so:xBp S=true
 nd:S.Nodup
 gd:∀ z:Str,cY (wts S 1 []) (.str z)=true↔z∈S
inductive jV (C CM Pr:Addr)(Cs:Nat->Addr)(n i:Nat)(vs:List V)(H:Hp)(Q:VK)(E:XK):Prop
 | mk (x dd:Addr)(r:Rl n)(S:List Str)(h0_:vs=[.ref x,.ref dd])(h1_:nV n r=i)(h2_:RAt Cs H n x r)(h3_:WfR n r)(h4_:n<=4)(h5_:hZ (jK n r))(h6_:WAt C H dd (wts S 1 []))(h7_:SOk S)(h8_:Tab jF jE Pr H)(h9_:uT S n r)(h10_:TAt CM H dd n r)
  (h11_:∀ X m H',Ev S n r m->aP (off H Pr) H'->Tab jF jE Pr H'->MM CM H' X dd m.b m.es m.kn m.ds->Q (.ref X) H')
theorem xI {H H':Hp}{P:Addr}(s:aP H H'):aP (off H P) H':=λb o e=>s b o (gP e).2
theorem aLd {S:List Str}{k:RK}(hk:k.Wf)(ha:∀ z∈k.about,z∈S):MOk S k.mw:=
 have R:=oH k hk
 ⟨R.nm,λz hz=>ha z ((mC k z).mp hz),xAn R.few (by decide)⟩
theorem aEt {S:List Str}:∀ {n:Nat}{r:Rl n}{m:MW},WfR n r->uT S n r->Ev S n r m->MOk S m
 | 0,.inl k,m,hw,ha,e=>by
  cases e;exact aLd hw ha
 | 0,.inr t,m,hw,ha,e=>by
  cases e;exact ha
 | n+1,.inl k,m,hw,ha,e=>by
  cases e;exact aLd hw ha
 | n+1,.inr l,m,hw,ha,e=>by
  obtain⟨ms,hp,kn,hk,rfl⟩:=e;have hle:=ha.2.2 ms hp;refine⟨lA hle,λz hz=>?_,by rw[<- sP]; exact uA hle⟩;obtain⟨m,hm,hz⟩:=xBs.mp ((hk z).mp hz);obtain⟨i,hi⟩:=xDk hm;have hl:i<l.length:=by rw[Paired.length hp]; exact (xAd.mp hi).1
  have hr:=xCg hl;exact (aEt (hw.2 _ hr) (ha.2.1 _ hr) (jD (F:=Ev S n) hp (xAe hl) hi)).kn z hz
section
variable {P:Program}{w:World}{K:xAb}{mg:xSO}{base:Heap}{Cs:Nat->Addr}{fs:_root_.Fin 8->Addr}{fds:_root_.Fin 8->FuncData}{n:Nat}{C CM CW cT Pr fMI:Addr}{fdMI:FuncData}{cl:Why->Addr}
theorem aWs:aR ["self","deeds"] ["self","deeds"] (aB aEn):=xfs
abbrev ndm:List Str:=["rule","deeds"]
theorem aKg {fA:_root_.Fin 8->Addr}{fdA:_root_.Fin 8->FuncData}{fQ fWI fMO:Addr}{fdQ fdWI fdMO:FuncData}(F:Fun K "machine" "All.machine" aEn (fs 6) (fds 6))(DC:yB K C)(na:dD K (Cs 6) "rules")(MC:MkC P w K mg base C CM fMI cl fdMI)
  (Ma:Fam K Cs "about" ["self"] fA fdA)(GA:∀ (n:Nat) (i:_root_.Fin 8),aQ P w K mg base CX0 (1+n) (fA i) (fdA i) ["self"] (aFl Cs n i))
  (GQ:aQ P w K mg base (CXE P w) 3 fQ fdQ ["self","row"] (iC K C cl))(bQ:aX K fdQ ["self","row"] [])(mQ:eE K C "require" fQ)
  (GWI:aQ P w K mg base (CXE P w) 3 fWI fdWI ["self","machines"] (wO CM CW cT))(WMk:Mk K CW fWI)(mWo:mg "Woven" = some (.ref CW))(bWI:aX K fdWI ["self","machines"] [])
  (GMO:aQ P w K mg base (CXE P w) 11 fMO fdMO ["woven"] (aIm C CM CW cT Pr))(kMO:keepIn K (.ref fMO)=true)(bMO:aX K fdMO ["woven"] [])(mMO:mg "made_one" = some (.ref fMO))
  (M:Fam K Cs "machine" ["self","deeds"] fs fds)(G:∀ i,aQ P w K mg base (CXE P w) (11+n) (fs i) (fds i) ["self","deeds"] (jV C CM Pr Cs n i)) :
  aQ P w K mg base (CXE P w) (11+(n+1)) (fs 6) (fds 6) ["self","deeds"] (jV C CM Pr Cs (n+1) 6):=by
 rw[show 11+(n+1)=(11+n)+1 from rfl]
 refine okE F aWs (λvs H Q E h=>?_) (λcdv A outer s H vs Q E hr h D=>?_)
 ·obtain⟨x,dd,r,S,rfl,_⟩:=h;rfl
 ·obtain⟨x,dd,r,S,rfl,hc,hR,hwf,hn,hsh,hW,SO,TB,hF,hT,q⟩:=h;obtain⟨l,rfl⟩:=aDi hc;obtain⟨dx,p,as,hx,hp,hP⟩:=id hR;have hr3:cM 3 _:=hr.mono (by omega);have hr4:cM (3+1) _:=hr.mono (by omega);have hr5:cM (4+1) _:=hr.mono (by omega);have hr11:cM 11 _:=hr.mono (by omega);have hrA:cM (1+(n+1)) _:=hr.mono (by omega)
  refine⟨_,aJ (dA (cS (pv 1) DC.cl mQ GQ hr3 bQ .nil (D.passes λ_ _ _ z=>z) (pac (dM (pv 0) (Ma.c 6) (Ma.m 6) (GA (n+1) 6) hrA (Ma.b 6) .nil bZ) aF)))
   (aJ (cK (jC (tR (cE (pv 0) rfl) (λ_=>rfl))) (aM (aU (dB (dvs:=[.non]) MC.k MC.G hr5 rfl MC.m MC.b1 (.cons rfl .nil) (D.passes λ_ _ _ z=>z) (pac (pv 1) (pac aO (pac (cA (pac aO aF)) (pac (cA aF) aF))))))) bS)
   (aM (aU (bX GMO hr11 rfl mMO kMO bMO .nil (D.passes λ_ _ _ z=>z) (pac (dB WMk GWI hr4 rfl mWo bWI .nil (D.passes λ_ _ _ z=>z) (pac (eN (N':=ndm) (nown:=1) (js:=[1]) rfl xbs (cJ (aB aEn) ["self","deeds"] rfl rfl (by decide +kernel))
     ⟨λ_ _ _ _=>aS (i:=0) (show List.Nodup ndm by decide +kernel) rfl (xAy rfl) (.inr rfl),λ_ _ _ _=>eV,λ_ _ _ _=>zG (Cs:=λi:_root_.Fin 8=>Cs i) (sps:=λi:_root_.Fin 8=>jV C CM Pr Cs n i) (pv 0) M.c M.m G hr M.b fV (pac (pv 1) aF)⟩
     (cU (cE (pv 0) rfl))) aF)) aF))))),?_⟩
  obtain⟨wx,wf,ww,wo,hw0,hw1,hw2,hw3⟩:=id hW;refine⟨_,rfl,dd,wx,wf,rfl,hw0,hw1 "require" (by decide),_,rfl,x,dx,_,rfl,hx,nN p "about" (by decide),x,.inr l,rfl,rfl,hR,hwf,hn,λla H1 s1 n1 e1=>?_⟩;refine⟨dd,la,_,_,rfl,SqL.of e1,nF hsh,eU hW s1,λH2 s2=>?_⟩;have s12:=s1.trans s2;have T2:=TB.same s12;have hg:=hF.about
  rw[xAu (xBj.mpr λv hv=>by
   obtain⟨y,hy,rfl⟩:=xAp.mp hv;exact (SO.gd y).mpr (hg y hy))]
  have hx2:=s12 _ _ hx;have hp2:=s12 _ _ hp;have hW2:=eU hW s12;obtain⟨hne,hFl,hle⟩:=id hF;have hT2:∀ r∈l,TAt CM H2 dd n r:=λr hr=>TAt.nt (aP.nt s12) (hT r hr);refine⟨_,rfl,x,_,dx,_,.ref p,rfl,hx2,M.c 6,na,rfl,!(as.map V.ref).isEmpty,.inl ⟨_,SqL.of hp2,rfl⟩,?_⟩
  have hea:(as.map V.ref).isEmpty=false:=by
   cases as with
   | nil=>cases hP; exact xAz rfl hne
   | cons _ _=>rfl
  rw[hea];have h4:l.length<=4:=hwf.1;refine fX ⟨_,rfl,x,_,dx,_,.ref p,rfl,hx2,M.c 6,na,rfl,p,rfl,⟨_,SqL.of hp2⟩,λB hB=>hV (xs:=as.map V.ref) (λi σ' H'=>∃ (u:Option V) (Xs:List Addr) (ms:List MW),σ'=[u,some (.ref dd)]/\H' B=some (.lst (Xs.map V.ref))/\Paired (Ev S n) (l.take i) ms/\Xs.length=ms.length/\(∀ (j:Nat) X m,Xs[j]?=some X->ms[j]?=some m->MM CM H' X dd m.b m.es m.kn m.ds)/\aP (off H2 Pr) H'/\Tab jF jE Pr H') ?_ ?_ ?_ ?_⟩
  ·exact⟨none,[],[],rfl,aE,.nil,rfl,(λj X m z=>nomatch z),xI (smu hB),T2.same (smu hB)⟩
  ·rintro i σ H' _ ⟨u,Xs,ms,rfl,a1,a2,a3,a4,a5,a6⟩;exact SqL.of (lH T2.tb a5 _ _ hp2 trivial)
  ·rintro i v σ H' hv ⟨u,Xs,ms,rfl,a1,a2,a3,a4,a5,a6⟩;rw[xAf] at hv;cases ha:as[i]? with
   | none=>rw[ha] at hv; cases hv
   | some a=>
    rw[ha] at hv;cases hv;have hi:i<l.length:=by rw[<- Paired.length hP]; exact (xAd.mp ha).1
    have hr':=xAe hi;have hm:=xCg hi;generalize l[i]=r at hr' hm;have nt:=lH T2.tb a5;have R:=((jD (F:=RAt Cs H n) hP ha hr').same s12).nt nt;obtain⟨dy,fl,hy,hfl⟩:=R.ins;refine⟨_,rfl,⟨nV n r,aFa r⟩,a,dy,fl,rfl,hy,hfl "machine" (by decide),_,rfl,a,dd,r,S,rfl,rfl,R,hwf.2 r hm,by omega,λz hz=>hsh z (xBs.mpr ⟨r,hm,hz⟩),ntW nt hW2,SO,a6,hFl r hm,TAt.nt nt (hT2 r hm),λX m H3 ev s3 T3 M3=>?_⟩;have nt3:=lH a6.tb s3;have b1:=nt3 _ _ a1 trivial;have ml:ms.length=i:=by have:=Paired.length a2; rw[xBe] at this; omega
    have s23:aP (off H2 Pr) H3:=λb o e=>s3 _ _ (oK (gP e).1 (a5 _ _ e));refine⟨_,b1,bO (by rw[xAa,a3,ml]; omega),some (.ref a),Xs++[X],ms++[m],rfl,by rw[aE,xAm]; rfl,?_,by rw[xAr,xAr,a3]; rfl,λj Y m' hY hm'=>?_,λb o e=>?_,?_⟩
    ·rw[xBf,hr'];exact Paired.snoc a2 ev
    ·have nl:NLs H3 (upd H3 B (.lst (Xs.map V.ref++[.ref X]))):=aEk b1
     by_cases hj:j<Xs.length
     ·rw[xBz hj] at hY;rw[xBz (by rw[<- a3]; exact hj)] at hm';exact aLe (ntM nt3 (a4 j Y m' hY hm')) nl
     ·have hl':j=Xs.length:=by
       have:=(xAd.mp hY).1
       rw[xAr] at this;simp only[List.length_cons,List.length_nil] at this;omega
      subst hl';rw[xCf (xAl _),xFj] at hY;rw[xCf (by rw[a3]; exact xAl _),a3,xFj] at hm';cases hY;cases hm';exact aLe M3 nl
    ·rw[aL (λz=>by rw[z] at e; rw[(gP e).2] at hB; cases hB)];exact s23 _ _ e
    ·have nB:∀ {c o},H3 c=some o->(∀ xs,o≠.lst xs)->(upd H3 B (.lst (Xs.map V.ref++[.ref X]))) c=some o:=λ{c o} e n=>by rw[aL (λz=>by rw[z,b1] at e; exact n _ (xBt e).symm)]; exact e
     exact T3.elim (λh=>.inl (nB h (λ_ z=>nomatch z))) λ⟨c',h1,h2⟩=>.inr ⟨c',nB h1 (λ_ z=>nomatch z),nB h2 (λ_ z=>nomatch z)⟩
  rintro σ H3 ⟨u,Xs,ms,rfl,a1,a2,a3,a4,a5,a6⟩;rw[xAa,Paired.length hP,xAx] at a2;have hml:ms.length=l.length:=(Paired.length a2).symm;have hl1:1<=l.length:=List.length_pos_iff.mpr hne
  have mok:∀ m∈ms,MOk S m:=λm hm=>by
   obtain⟨i,hi⟩:=xDk hm;have hl:i<l.length:=by rw[<- hml]; exact (xAd.mp hi).1
   have hr:=xCg hl;exact aEt (hwf.2 _ hr) (hFl _ hr) (jD (F:=Ev S n) a2 (xAe hl) hi)
  have hkS:∀ z∈wkn ms,z∈S:=λz hz=>by
   obtain⟨m,hm,hz⟩:=xBs.mp hz;exact (mok m hm).kn z hz
  have hW3:=ntW (lH T2.tb a5) hW2;intro v dv hv hdv _;have k1:aP H3 (upd (upd H3 dv (.own v)) v (.ins CW dv [])):=λb o e=>by rw[aL (aI e hv),aL (aI e hdv)]; exact e
  refine .mk v dv dd B ms S rfl aE (nX.same ⟨Xs,a1,a3,a4⟩ k1) ⟨by omega,by omega⟩ (λm hm=>(mok m hm).kn) (by have:=SO.le; omega) λH4 sb W4 _=>⟨rfl,?_⟩;have s34:aP H3 H4:=λb o e=>sb b o (aI e hv) (k1 _ _ e);have T4:=a6.same s34;have o4:aP (off H Pr) H4:=λb o e=>s34 _ _ (a5 _ _ (oK (gP e).1 (s12 _ _ (gP e).2)));refine⟨v,dd,ms,S,_,rfl,W4,⟨by omega,by omega⟩,λm hm=>(mok m hm).nm,eU hW3 s34,hkS,SO.le,λz hz=>(SO.gd z).mpr hz,SO.so,SO.nd,T4,λ_ X kn H5 s5 T5 hk M5=>?_,λhgt=>xAz (hle ms a2) (by omega)⟩;exact q X ⟨rN 0,hJ ms S,kn,dR ms S⟩ H5 ⟨ms,a2,kn,hk,rfl⟩ (λb o e=>s5 _ _ (oK (gP e).1 (o4 _ _ e))) T5 M5
end
theorem aEf:aR ["self","row","room","deed"] ["self","row"] (aB xO):=xfs
theorem vE (ds:List Dr)(kn:List Str):∀ (rw:List Str) (i:Nat) (b z y:Str),walk ds kn b (rw.take i)=some z->rw[i]?=some y->walk ds kn b (rw.take (i+1))=gH ds kn z y
 | [],i,b,z,y,h,e=>by cases e
 | u::r,0,b,z,y,h,e=>by
  cases e;cases h;show (match gH ds kn b u with | none=>none | some z'=>some z')=_
  cases gH ds kn b u <;> rfl
 | u::r,i+1,b,z,y,h,e=>by
  rw[xGs] at h ⊢;unfold walk at h ⊢;cases q:gH ds kn b u with
  | none=>rw[q] at h; cases h
  | some z'=>
   rw[q] at h;exact vE ds kn r i z' z y h e
theorem vD (ds:List Dr)(kn:List Str):∀ (rw:List Str) (i:Nat) (b:Str),walk ds kn b (rw.take i)=none->walk ds kn b rw=none
 | [],i,b,h=>by rw[List.take_nil] at h; exact h
 | u::r,0,b,h=>by cases h
 | u::r,i+1,b,h=>by
  rw[xGs] at h;unfold walk at h ⊢;cases q:gH ds kn b u with
  | none=>rfl
  | some z'=>
   rw[q] at h;exact vD ds kn r i z' h
theorem aCf {f fG fQ C CM:Addr}{fd fdG fdQ:FuncData}{cl:Why->Addr}(F:Fun K "behind" "Machine.behind" xO f fd)(T:Txt K mg)(DC:yB K C)(MC:kJ K CM)
  (GG:aQ P w K mg base CX0 1 fG fdG ["self","room","deed"] (wS CM))(bG:aX K fdG ["self","room","deed"] [])(mG:eE K CM "goes" fG)
  (GQ:aQ P w K mg base (CXE P w) 3 fQ fdQ ["self","row"] (iC K C cl))(bQ:aX K fdQ ["self","row"] [])(mQ:eE K C "require" fQ):aQ P w K mg base (CXE P w) 4 f fd ["self","row"] (qI K C CM cl):=by
 refine okE F aEf (λvs H Q E h=>?_) (λcdv A outer s H vs Q E hr h D=>?_)
 ·obtain⟨x,dd,a,b,es,kn,rw',ds,wk,rfl,_⟩:=h;rfl
 ·obtain⟨x,dd,a,b,es,kn,rw',ds,wk,rfl,⟨dx,l,e,k,kvs,g,M⟩,⟨wx,wf,ww,wo,hw0,hw1,hw2,hw3⟩,hS,hsh,hnm,q⟩:=h;have hr1:cM 1 _:=hr.mono (by decide)
  refine⟨_,aJ (dA (cS (cE (pv 0) rfl) DC.cl mQ GQ hr bQ .nil (D.passes λ_ _ _ z=>z) (pac (pv 1) aF)))
   (aJ (bJ (i:=2) aEf.nd rfl (xAy rfl) (cE (pv 0) rfl))
   (aJ (dZ PassesOwn.leaving rfl (cU (pv 1)) (aS (i:=3) aEf.nd rfl (xAy rfl))
    (aJ (bJ (i:=2) aEf.nd rfl (xAy rfl) (cS (pv 0) MC.cl mG GG hr1 bG .nil bZ (pac (pv 2) (pac (pv 3) aF))))
    (aM (cK (aV aBz (pv 2) eJ (bC _)) (aM (aU eJ)) bS))))
   (aM (aU (pv 2))))),?_⟩
  refine⟨_,rfl,x,CM,dx,_,_,rfl,M.ins,MC.cl,MC.nd,by rfl,dd,wx,wf,rfl,hw0,hw1 "require" (by decide),_,rfl,dd,a,_,wk,rfl,hS,nF hsh,⟨wx,wf,ww,wo,hw0,hw1,hw2,hw3⟩,λH2 s2=>?_⟩;have q2:=λH' (s:aP H2 H')=>q H' (s2.trans s)
  by_cases hall:(rw'.map V.str).all (cY wk)=true
  ·simp only[if_pos hall] at q2 ⊢;have M2:=M.same s2;refine⟨_,rfl,x,CM,dx,_,_,rfl,M2.ins,MC.cl,MC.nf,by rfl,_,rfl,a,rfl,⟨_,s2.seq hS⟩,?_⟩;refine dE (xs:=rw'.map V.str) (λi σ H'=>∃ z x3,σ=[some (.ref x),some (.ref a),some (.str z),x3]/\walk ds kn b (rw'.take i)=some z/\z∈cC b es ds/\H'=H2) ?_ ?_ ?_ ?_
   ·exact⟨b,none,rfl,rfl,xBk ..,rfl⟩
   ·rintro i σ H' _ ⟨z,x3,rfl,h1,h2,rfl⟩;exact s2.seq hS
   ·rintro i v σ H' hv ⟨z,x3,rfl,h1,h2,rfl⟩;rw[xAf] at hv;cases hy:rw'[i]? with
    | none=>rw[hy] at hv; cases hv
    | some y=>
     rw[hy] at hv;cases hv;have h3:=vE ds kn rw' i b z y h1 hy;refine⟨_,rfl,x,dx,_,rfl,M2.ins,cZ _ _ _ _ _ _ (by decide),_,rfl,_,rfl,x,dd,b,z,y,es,kn,ds,rfl,⟨dx,l,e,k,kvs,g,M2⟩,h2,?_⟩;cases hg:gH ds kn z y with
     | none=>
      refine⟨_,rfl,rfl,_,rfl,gX ?_⟩
      have:=q2 H' (aP.refl H')
      rw[vD ds kn rw' (i+1) b (h3.trans hg)] at this;exact this
     | some u=>
      refine⟨_,rfl,rfl,_,rfl,fX ?_⟩;exact⟨u,some (.str y),rfl,h3.trans hg,uF h2 hg,rfl⟩
   ·rintro σ H' ⟨z,x3,rfl,h1,h2,rfl⟩;rw[xAa,xAx] at h1
    have:=q2 H' (aP.refl H')
    rw[h1] at this;exact⟨_,rfl,this⟩
  ·simp only[if_neg hall] at q2 ⊢;exact q2 H2 (aP.refl H2)
inductive aEa (K:xAb)(C CM Pr:Addr)(Cs:Nat->Addr)(n:Nat)(vs:List V)(H:Hp)(Q:VK)(E:XK):Prop
 | mk (x dd rr:Addr)(r:Rl n)(S row:List Str)(h0_:vs=[.ref x,.ref dd,.ref rr])(h2_:RAt Cs H n x r)(h3_:WfR n r)(h4_:n<=4)(h5_:hZ (jK n r))(h6_:WAt C H dd (wts S 1 []))(h7_:SOk S)(h8_:Tab jF jE Pr H)(h9_:uT S n r)(h10_:TAt CM H dd n r)
  (ha_:H rr=some (.lst (row.map V.str)))(hb_:hZ row)(hc_:∀ z∈row,z∈S)
  (h11_:∀ m H',Ev S n r m->aP (off H Pr) H'->Tab jF jE Pr H'->Q (.bl (walk m.ds m.kn m.b row).isSome) H')
inductive sI (Cs:Nat->Addr)(vs:List V)(H:Hp)(Q:VK)(E:XK):Prop
 | mk (x dx A:Addr)(v:V)(h0_:vs=[.ref x,v])(h1_:H x=some (.ins (Cs 7) dx [("machine_itself",.ref A)]))(h2_:Q (.ref A) H)
inductive wP (Cs:Nat->Addr)(vs:List V)(H:Hp)(Q:VK)(E:XK):Prop
 | mk (x dx A:Addr)(h0_:vs=[.ref x,.ref A])(h1_:H x=some (.ins (Cs 7) dx []))(h2_:∀ H',SameBut x H H'->H' x=some (.ins (Cs 7) dx [("machine_itself",.ref A)])->Q .non H')
section
variable {P:Program}{w:World}{K:xAb}{mg:xSO}{base:Heap}{Cs:Nat->Addr}{fs:_root_.Fin 8->Addr}{fds:_root_.Fin 8->FuncData}{C CM CW cT Pr fMI:Addr}{fdMI:FuncData}{cl:Why->Addr}
theorem aWx:aR ["self","machine"] ["self","machine"] (aB aLx):=xfs
theorem aKo {f:Addr}{fd:FuncData}(F:Fun K "__init__" "Told.__init__" aLx f fd)(cl:Cls K (Cs 7))(na:dD K (Cs 7) "machine_itself"):aQ P w K mg base CX0 1 f fd ["self","machine"] (wP Cs):=by
 refine F.ok aWx (λvs H Q E h=>?_) (λcdv A outer s H vs Q E hr h=>?_)
 ·obtain⟨x,dx,a,rfl,_⟩:=h;rfl
 ·obtain⟨x,dx,a,rfl,hx,q⟩:=h;refine⟨_,aM (gL (pv 0) (pv 1) rfl),?_⟩;exact⟨_,rfl,_,rfl,x,_,dx,[],rfl,hx,cl,na,by decide,q _ (λb o n e=>by rw[aL n]; exact e) aE⟩
theorem aWw:aR ["self","deeds"] ["self","deeds"] (aB aLw):=xfs
theorem aKn {f:Addr}{fd:FuncData}(F:Fun K "machine" "Told.machine" aLw f fd)(cl:Cls K (Cs 7))(na:dD K (Cs 7) "machine_itself"):aQ P w K mg base (CXE P w) 1 f fd ["self","deeds"] (sI Cs):=by
 refine okE F aWw (λvs H Q E h=>?_) (λcdv A outer s H vs Q E hr h D=>?_)
 ·obtain⟨x,dx,a,v,rfl,_⟩:=h;rfl
 ·obtain⟨x,dx,a,v,rfl,hx,q⟩:=h;exact⟨_,aM (aU (cE (pv 0) rfl)),_,rfl,x,_,dx,_,.ref a,rfl,hx,cl,na,rfl,q⟩
theorem aUc (Gp:∀ i:_root_.Fin 8,i.1<6->aQ P w K mg base (CXE P w) 6 (fs i) (fds i) ["self","deeds"] (aBg C CM (cl .noDeed) Cs i))(Gt:aQ P w K mg base (CXE P w) 1 (fs 7) (fds 7) ["self","deeds"] (sI Cs))
  (st:∀ n,(∀ i,aQ P w K mg base (CXE P w) (11+n) (fs i) (fds i) ["self","deeds"] (jV C CM Pr Cs n i))->aQ P w K mg base (CXE P w) (11+(n+1)) (fs 6) (fds 6) ["self","deeds"] (jV C CM Pr Cs (n+1) 6)) :
  ∀ (n:Nat) (i:_root_.Fin 8),aQ P w K mg base (CXE P w) (11+n) (fs i) (fds i) ["self","deeds"] (jV C CM Pr Cs n i):=by
 have pl:∀ (n:Nat) (i:_root_.Fin 8),i.1<6->aQ P w K mg base (CXE P w) (11+n) (fs i) (fds i) ["self","deeds"] (jV C CM Pr Cs n i):=λn i hi=>aQ.weaker (aQ.more (Gp i hi) (by omega)) λvs H Q E ⟨x,dd,r,S,e,hc,hR,hwf,hn,hsh,hW,SO,TB,hF,hT,q⟩=>by
  obtain⟨k,hp⟩:=zC (r:=r) (by rw[hc]; exact hi);have all:(∀ z∈k.about,z∈S)->(k.about.all λz=>cY (wts S 1 []) (.str z))=true:=λh=>xBj.mpr λz hz=>(SO.gd z).mpr (h z hz);cases hp <;> exact⟨x,dd,k,_,e,hc,hR,hwf,hsh,hW,λz=>xAz (all hF) z,λ_ X H' s M=>q X k.mw H' rfl (xI s) (TB.same s) M⟩
 intro n
 induction n with
 | zero=>
  intro i;rcases nQ i with hi | rfl | rfl
  ·exact pl 0 i hi
  ·exact aQ.none λvs H Q E ⟨x,dd,r,S,_,hc,_,_,_,_,_,_,_,_,_,_⟩=>aRp r hc
  ·refine aQ.weaker (aQ.more Gt (by omega)) λvs H Q E ⟨x,dd,r,S,e,hc,hR,hwf,hn,hsh,hW,SO,TB,hF,hT,q⟩=>?_;obtain⟨t,rfl⟩:=yG hc;obtain⟨dx,hx⟩:=hR;exact⟨x,dx,t.1,.ref dd,e,hx,q t.1 t.2 H rfl (xI (aP.refl H)) TB hT⟩
 | succ n ih=>
  intro i;rcases nQ i with hi | rfl | rfl
  ·exact pl _ i hi
  ·exact st n ih
  ·exact aQ.none λvs H Q E ⟨x,dd,r,S,_,hc,_,_,_,_,_,_,_,_,_,_⟩=>(nomatch aDt hc)
theorem aWv:aR ["rule","deeds","row"] ["rule","deeds","row"] (aB aBq):=xfs
theorem aKj {f fBh:Addr}{fd fdBh:FuncData}(F:Fun K "keeps" "keeps" aBq f fd)(MC:kJ K CM)(M:Fam K Cs "machine" ["self","deeds"] fs fds)(G:∀ (n:Nat) (i:_root_.Fin 8),aQ P w K mg base (CXE P w) (11+n) (fs i) (fds i) ["self","deeds"] (jV C CM Pr Cs n i))
  (GB:aQ P w K mg base (CXE P w) 4 fBh fdBh ["self","row"] (qI K C CM cl))(bB:aX K fdBh ["self","row"] [])(mB:eE K CM "behind" fBh)(n:Nat):aQ P w K mg base (CXE P w) (12+n) f fd ["rule","deeds","row"] (aEa K C CM Pr Cs n):=by
 rw[show 12+n=(11+n)+1 by omega];refine okE F aWv (λvs H Q E h=>?_) (λcdv A outer s H vs Q E hr h D=>?_)
 ·obtain⟨x,dd,rr,r,S,row,rfl,_⟩:=h;rfl
 ·obtain⟨x,dd,rr,r,S,row,rfl,hR,hwf,hn,hsh,hW,SO,TB,hF,hT,hrr,hsr,hg,q⟩:=h;have hr4:cM 4 _:=hr.mono (by omega);refine⟨_,aM (aU (fS jS (cS (zG (Cs:=λi:_root_.Fin 8=>Cs i) (sps:=λi:_root_.Fin 8=>jV C CM Pr Cs n i) (pv 0) M.c M.m (G n) hr M.b (D.passes λ_ _ _ z=>z) (pac (pv 1) aF)) MC.cl mB GB hr4 bB .nil (D.passes λ_ _ _ z=>z) (pac (pv 2) aF)) eJ (bC _))),?_⟩;obtain⟨dy,fl,hy,hfl⟩:=hR.ins;refine⟨_,rfl,⟨nV n r,aFa r⟩,x,dy,fl,rfl,hy,hfl "machine" (by decide),_,rfl,x,dd,r,S,rfl,rfl,hR,hwf,hn,hsh,hW,SO,TB,hF,hT,λX m H1 ev s1 T1 M1=>?_⟩;obtain⟨dX,lM,eM,kM,kv,g,MA⟩:=id M1;have nt:=lH TB.tb s1;refine⟨X,dX,_,rfl,MA.ins,cZ _ _ _ _ _ _ (by decide),_,rfl,X,dd,rr,m.b,m.es,m.kn,row,m.ds,_,rfl,M1,ntW nt hW,SqL.of (nt _ _ hrr trivial),hsr,(aEt hwf hF ev).nm,λH2 s2=>?_⟩;have o2:aP (off H Pr) H2:=λb o e=>s2 _ _ (s1 _ _ e)
  rw[xAu (xBj.mpr λv hv=>by
   obtain⟨y,hy,rfl⟩:=xAp.mp hv;exact (SO.gd y).mpr (hg y hy))]
  have:=q m H2 ev o2 (T1.same s2)
  cases hw:walk m.ds m.kn m.b row with
  | none=>rw[hw] at this; exact⟨rfl,this⟩
  | some z=>rw[hw] at this; exact⟨rfl,this⟩
end
abbrev wn:_root_.Fin 4->Str
 | 0=>"ahead" | 1=>"turns" | 2=>"hold" | 3=>"answer"
def RK.wl:RK->List V
 | .never a=>[.str "never",.str a]
 | .most a n=>[.str "most",.str a,.int n]
 | .two w a b=>[.str (wn w),.str a,.str b]
theorem RK.six (k:RK):(∃ a,k=.never a)\/(∃ a n,k=.most a n)\/(∃ a b,k=.two 0 a b)\/(∃ a b,k=.two 1 a b)\/(∃ a b,k=.two 2 a b)\/∃ a b,k=.two 3 a b:=
 match k with
 | .never a=>.inl ⟨a,rfl⟩
 | .most a n=>.inr (.inl ⟨a,n,rfl⟩)
 | .two 0 a b=>.inr (.inr (.inl ⟨a,b,rfl⟩))
 | .two 1 a b=>.inr (.inr (.inr (.inl ⟨a,b,rfl⟩)))
 | .two 2 a b=>.inr (.inr (.inr (.inr (.inl ⟨a,b,rfl⟩))))
 | .two 3 a b=>.inr (.inr (.inr (.inr (.inr ⟨a,b,rfl⟩))))
inductive yL (Cs:Nat->Addr)(vs:List V)(H:Hp)(Q:VK)(E:XK):Prop
 | mk (t:Addr)(k:RK)(h0_:vs=[.ref t])(h1_:H t=some (.tup k.wl))(h2_:k.Wf)(h3_:∀ X H',aP H H'->jL Cs H' X k->Q (.ref X) H')
theorem ifT {a b:Str}{p q:Prop}(h:a=b)(x:p):if decide (V.str a=V.str b)=true then p else q:=by rw[h,xAu (xAk rfl)]; exact x
theorem ifF {a b:Str}{p q:Prop}(h:a≠b)(x:q):if decide (V.str a=V.str b)=true then p else q:=by rw[xAt (λz=>h (V.str.inj (xAg z)))]; exact x
structure CkC (P:Program)(w:World)(K:xAb)(mg:xSO)(base:Heap)(CX:CXT)(n:Nat)(x:Str)(C f:Addr)(fd:FuncData)(ps:List Str)(sp:Sp):Prop where
 G:aQ P w K mg base CX n f fd ps sp
 k:Mk K C f
 b:aX K fd ps []
 m:mg x=some (.ref C)
theorem aWg:aR ["_law_row_here"] ["_law_row_here"] (aB wV):=xfs
theorem aGc {f fN fO fA fU fH fW cN:Addr}{fd fdN fdO fdA fdU fdH fdW:FuncData}{Cs:Nat->Addr}(F:Fun K "_law_rule_of" "_law_rule_of" wV f fd)(RC:∀ i:_root_.Fin 4,jM K (Cs (2+i)))
  (MN:CkC P w K mg base CX0 1 "Never" (Cs 0) fN fdN ["self","deed"] (yO (Cs 0)))(MO:CkC P w K mg base (CXE P w) 2 "Most" (Cs 1) fO fdO ["self","deed","many"] (wQ (Cs 1) cN))(MA:CkC P w K mg base (CXE P w) 2 "Ahead" (Cs 2) fA fdA ["self","first","later"] (iZ K cN))
  (MU:CkC P w K mg base (CXE P w) 2 "Turns" (Cs 3) fU fdU ["self","one","other"] (iZ K cN))(MH:CkC P w K mg base (CXE P w) 2 "Hold" (Cs 4) fH fdH ["self","deed","other"] (iZ K cN))(MW:CkC P w K mg base (CXE P w) 2 "Answer" (Cs 5) fW fdW ["self","deed","other"] (iZ K cN)) :
  aQ P w K mg base (CXE P w) 4 f fd ["_law_row_here"] (yL Cs):=by
 refine okE F aWg (λvs H Q E h=>?_) (λcdv A outer s H vs Q E hr h D=>?_)
 ·obtain⟨t,k,rfl,_⟩:=h;rfl
 ·obtain⟨t,k,rfl,ht,hk,q⟩:=h;have hr2:cM 2 _:=hr.mono (by decide);have ps:=D.passes λ(_:Value) (_:Option Addr) (_:Hp) (z:E _ _ _)=>z
  refine⟨_,aJ (cK (aV eC (cG cV (pv 0) aN (λ_ _=>rfl)) aO (bC _)) (aM (aU (dB MN.k MN.G hr2 rfl MN.m MN.b .nil bZ (pac (cG cV (pv 0) aN (λ_ _=>rfl)) aF)))) bS)
   (aJ (cK (aV eC (cG cV (pv 0) aN (λ_ _=>rfl)) aO (bC _)) (aM (aU (dB MO.k MO.G hr rfl MO.m MO.b .nil ps (pac (cG cV (pv 0) aN (λ_ _=>rfl)) (pac (cG cV (pv 0) aN (λ_ _=>rfl)) aF))))) bS)
   (aJ (cK (aV eC (cG cV (pv 0) aN (λ_ _=>rfl)) aO (bC _)) (aM (aU (dB MA.k MA.G hr rfl MA.m MA.b .nil ps (pac (cG cV (pv 0) aN (λ_ _=>rfl)) (pac (cG cV (pv 0) aN (λ_ _=>rfl)) aF))))) bS)
   (aJ (cK (aV eC (cG cV (pv 0) aN (λ_ _=>rfl)) aO (bC _)) (aM (aU (dB MU.k MU.G hr rfl MU.m MU.b .nil ps (pac (cG cV (pv 0) aN (λ_ _=>rfl)) (pac (cG cV (pv 0) aN (λ_ _=>rfl)) aF))))) bS)
   (aJ (cK (aV eC (cG cV (pv 0) aN (λ_ _=>rfl)) aO (bC _)) (aM (aU (dB MH.k MH.G hr rfl MH.m MH.b .nil ps (pac (cG cV (pv 0) aN (λ_ _=>rfl)) (pac (cG cV (pv 0) aN (λ_ _=>rfl)) aF))))) bS)
   (aM (aU (dB MW.k MW.G hr rfl MW.m MW.b .nil ps (pac (cG cV (pv 0) aN (λ_ _=>rfl)) (pac (cG cV (pv 0) aN (λ_ _=>rfl)) aF))))))))),?_⟩
  have k1:∀ {X dX C:Addr},H X=none->H dX=none->aP H (upd (upd H dX (.own X)) X (.ins C dX [])):=λ{X dX C} hX hdX b o e=>by rw[aL (aI e hX),aL (aI e hdX)]; exact e
  have fin:∀ {X dX C:Addr}{H':Hp},H X=none->H dX=none->SameBut X (upd (upd H dX (.own X)) X (.ins C dX [])) H'->aP H H':=λ{X dX C H'} hX hdX sb b o e=>sb b o (aI e hX) (k1 hX hdX b o e)
  have tw:∀ (v:_root_.Fin 4) (a b:Str),a≠b->(∀ X H',aP H H'->jL Cs H' X (.two v a b)->Q (.ref X) H')->∀ (X dX:Addr),H X=none->H dX=none->iZ K cN [.ref X,.str a,.str b] (upd (upd H dX (.own X)) X (.ins (Cs (2+v)) dX [])) (λv H2=>v=.non/\Q (.ref X) H2) E:=λv a b hab q X dX hX hdX=>
   ⟨X,dX,_,a,b,rfl,RC v,aE,λ_ H' sb hx=>⟨rfl,q X H' (fin hX hdX sb) ⟨dX,hx⟩⟩,λz=>xAz z hab⟩
  rcases k.six with⟨a,rfl⟩ | ⟨a,n,rfl⟩ | ⟨a,b,rfl⟩ | ⟨a,b,rfl⟩ | ⟨a,b,rfl⟩ | ⟨a,b,rfl⟩
  ·exact⟨_,rfl,t,_,_,.str "never",rfl,rfl,SqT.of ht,rfl,rfl,_,rfl,ifT rfl ⟨_,rfl,t,_,_,.str a,rfl,rfl,SqT.of ht,rfl,λX dX hX hdX _=>⟨X,dX,a,rfl,aE,λH' sb hx=>⟨rfl,q X H' (fin hX hdX sb) ⟨dX,hx⟩⟩⟩⟩⟩
  ·have hn:n<=6:=hk
   exact⟨_,rfl,t,_,_,.str "most",rfl,rfl,SqT.of ht,rfl,rfl,_,rfl,ifF (by decide +kernel) ⟨_,rfl,t,_,_,.str "most",rfl,rfl,SqT.of ht,rfl,rfl,_,rfl,ifT rfl ⟨_,rfl,t,_,_,.str a,rfl,rfl,SqT.of ht,rfl,_,rfl,t,_,_,.int n,rfl,rfl,SqT.of ht,rfl,λX dX hX hdX _=>⟨X,dX,a,.int n,rfl,.int n,aE,λn' hv _ H' sb hx=>⟨rfl,by
    obtain rfl:n'=n:=by have:=V.int.inj hv; omega
    exact q X H' (fin hX hdX sb) ⟨dX,hx⟩⟩,λhv=>xAz hv (by show ¬ (decide ((0:Int)<=n)&&decide ((n:Int)<=6))=false; rw[xAk (by omega),xAk (by omega)]; decide)⟩⟩⟩⟩
  ·exact⟨_,rfl,t,_,_,.str "ahead",rfl,rfl,SqT.of ht,rfl,rfl,_,rfl,ifF (by decide +kernel) ⟨_,rfl,t,_,_,.str "ahead",rfl,rfl,SqT.of ht,rfl,rfl,_,rfl,ifF (by decide +kernel) ⟨_,rfl,t,_,_,.str "ahead",rfl,rfl,SqT.of ht,rfl,rfl,_,rfl,ifT rfl ⟨_,rfl,t,_,_,.str a,rfl,rfl,SqT.of ht,rfl,_,rfl,t,_,_,.str b,rfl,rfl,SqT.of ht,rfl,λX dX hX hdX _=>tw 0 a b hk (λX H'=>q X H') X dX hX hdX⟩⟩⟩⟩
  ·exact⟨_,rfl,t,_,_,.str "turns",rfl,rfl,SqT.of ht,rfl,rfl,_,rfl,ifF (by decide +kernel) ⟨_,rfl,t,_,_,.str "turns",rfl,rfl,SqT.of ht,rfl,rfl,_,rfl,ifF (by decide +kernel) ⟨_,rfl,t,_,_,.str "turns",rfl,rfl,SqT.of ht,rfl,rfl,_,rfl,ifF (by decide +kernel) ⟨_,rfl,t,_,_,.str "turns",rfl,rfl,SqT.of ht,rfl,rfl,_,rfl,ifT rfl ⟨_,rfl,t,_,_,.str a,rfl,rfl,SqT.of ht,rfl,_,rfl,t,_,_,.str b,rfl,rfl,SqT.of ht,rfl,λX dX hX hdX _=>tw 1 a b hk (λX H'=>q X H') X dX hX hdX⟩⟩⟩⟩⟩
  ·exact⟨_,rfl,t,_,_,.str "hold",rfl,rfl,SqT.of ht,rfl,rfl,_,rfl,ifF (by decide +kernel) ⟨_,rfl,t,_,_,.str "hold",rfl,rfl,SqT.of ht,rfl,rfl,_,rfl,ifF (by decide +kernel) ⟨_,rfl,t,_,_,.str "hold",rfl,rfl,SqT.of ht,rfl,rfl,_,rfl,ifF (by decide +kernel) ⟨_,rfl,t,_,_,.str "hold",rfl,rfl,SqT.of ht,rfl,rfl,_,rfl,ifF (by decide +kernel) ⟨_,rfl,t,_,_,.str "hold",rfl,rfl,SqT.of ht,rfl,rfl,_,rfl,ifT rfl ⟨_,rfl,t,_,_,.str a,rfl,rfl,SqT.of ht,rfl,_,rfl,t,_,_,.str b,rfl,rfl,SqT.of ht,rfl,λX dX hX hdX _=>tw 2 a b hk (λX H'=>q X H') X dX hX hdX⟩⟩⟩⟩⟩⟩
  ·exact⟨_,rfl,t,_,_,.str "answer",rfl,rfl,SqT.of ht,rfl,rfl,_,rfl,ifF (by decide +kernel) ⟨_,rfl,t,_,_,.str "answer",rfl,rfl,SqT.of ht,rfl,rfl,_,rfl,ifF (by decide +kernel) ⟨_,rfl,t,_,_,.str "answer",rfl,rfl,SqT.of ht,rfl,rfl,_,rfl,ifF (by decide +kernel) ⟨_,rfl,t,_,_,.str "answer",rfl,rfl,SqT.of ht,rfl,rfl,_,rfl,ifF (by decide +kernel) ⟨_,rfl,t,_,_,.str "answer",rfl,rfl,SqT.of ht,rfl,rfl,_,rfl,ifF (by decide +kernel) ⟨_,rfl,t,_,_,.str a,rfl,rfl,SqT.of ht,rfl,_,rfl,t,_,_,.str b,rfl,rfl,SqT.of ht,rfl,λX dX hX hdX _=>tw 3 a b hk (λX H'=>q X H') X dX hX hdX⟩⟩⟩⟩⟩⟩
namespace RK
def top:RK->Nat
 | .never _=>0
 | .most _ n=>n
 | .two _ _ _=>1
def word:RK->Str
 | .never _=>"never" | .most _ _=>"most" | .two v _ _=>wn v
def one:RK->Str
 | .never a=>a | .most a _=>a | .two _ a _=>a
end RK
def nx2 (v:_root_.Fin 4)(f:Bool)(s:Nat):Option Nat:=((tpl v).find? λt=>decide (t.1=s)&&decide (t.2.1=!f)).map (·.2.2)
def RK.next:RK->Nat->Str->Option Nat
 | .never a,s,y=>if y=a then none else some s
 | .most a n,s,y=>if y=a then (if s<n then some (s+1) else none) else some s
 | .two v a b,s,y=>if y=a\/y=b then nx2 v (decide (y=a)) s else some s
def RK.due (k:RK):Nat->List Str->Option Nat
 | s,[]=>some s
 | s,y::r=>match k.next s y with
  | none=>none
  | some s'=>k.due s' r
theorem sN:∀ (f:Bool) (s:Nat),s<2->nx2 0 f s=(if f=true\/s=1 then some 1 else none)/\nx2 1 f s=(if (f=true↔s=0) then some (1-s) else none)/\nx2 2 f s=(if f=true/\s=1 then none else some (if f=true then 1 else 0))/\nx2 3 f s=some (if f=true then 1 else 0):=by decide
theorem oA {v:_root_.Fin 4}{a b y:Str}{s:Nat}(ey:y=a\/y=b):(RK.two v a b).next s y=nx2 v (decide (y=a)) s:=if_pos ey
theorem xV {ds:List Dr}(ap:Ky.Apart ds){x:Dr}(h:x∈ds):cF ds x.1 x.2.1=some x.2.2:=by
 unfold cF;cases e:ds.find? (λy=>decide (y.1=x.1)&&decide (y.2.1=x.2.1)) with
 | none=>exact absurd (List.find?_eq_none.mp e x h) (by simp)
 | some y=>
  have hy:=List.mem_of_find?_eq_some e;have hp:=List.find?_some e;rw[Bool.and_eq_true] at hp;obtain⟨i,hi,ei⟩:=List.mem_iff_getElem.mp h;obtain⟨j,hj,ej⟩:=List.mem_iff_getElem.mp hy
  have inj:i=j:=by
   have h1:(ds.map λx=>(x.1,x.2.1))[i]?=some (x.1,x.2.1):=by rw[List.getElem?_map,List.getElem?_eq_getElem hi,ei]; rfl
   have h2:(ds.map λx=>(x.1,x.2.1))[j]?=some (y.1,y.2.1):=by rw[List.getElem?_map,List.getElem?_eq_getElem hj,ej]; rfl
   exact (List.getElem?_inj (by rw[List.length_map]; exact hi) ap).mp (by rw[h1,h2,of_decide_eq_true hp.1,of_decide_eq_true hp.2])
  subst inj;rw[ei] at ej;rw[<- ej];rfl
theorem aAm {a b y:Str}{s:Nat}(hab:a≠b)(ey:y=a\/y=b)(hs:s<2):∀ L:List (Nat×Bool×Nat),(∀ t∈L,t.1<2)->cF (L.map (dor a b)) (rN s) y=((L.find? λt=>decide (t.1=s)&&decide (t.2.1=!decide (y=a))).map (·.2.2)).map rN
 | [],_=>rfl
 | t::L,h=>by
  have ih:=aAm hab ey hs L λu hu=>h u (.tail _ hu)
  have e1:decide (rN t.1=rN s)=decide (t.1=s):=by
   rw[decide_eq_decide];exact⟨qL _ (by have:=h t (.head _); omega) _ (by omega),congrArg rN⟩
  have e2:decide ((if t.2.1=true then b else a)=y)=decide (t.2.1=!decide (y=a)):=by
   rcases ey with rfl | rfl
   ·cases t.2.1 <;> simp[Ne.symm hab]
   ·cases t.2.1 <;> simp[hab,Ne.symm hab]
  unfold cF at ih ⊢;rw[List.map_cons,List.find?_cons,List.find?_cons];show Option.map _ (match decide (rN t.1=rN s)&&decide ((if t.2.1=true then b else a)=y) with | true=>_ | false=>_)=_
  rw[e1,e2];cases decide (t.1=s)&&decide (t.2.1=!decide (y=a)) with
  | true=>rfl
  | false=>exact ih
theorem step (k:RK)(hk:k.Wf){s:Nat}(hs:s<=k.top)(y:Str):gH k.doors k.mw.kn (rN s) y=(k.next s y).map rN/\∀ s',k.next s y=some s'->s'<=k.top:=by
 have kn:=mC k y;unfold gH
 by_cases hy:y∈k.about
 ·rw[if_pos (kn.mpr hy)];cases k with
  | never a=>
   rw[show (RK.never a).next s y=none from if_pos (List.mem_singleton.mp hy)]
   exact⟨rfl,λs' h=>nomatch h⟩
  | most a n=>
   obtain rfl:y=a:=List.mem_singleton.mp hy;have hn:n<=6:=hk;have hs:s<=n:=hs;rw[show (RK.most y n).next s y=if s<n then some (s+1) else none from if_pos rfl]
   by_cases q:s<n
   ·rw[if_pos q];exact⟨xV (oH (.most y n) hk).ap (x:=(rN s,y,rN (s+1))) (List.mem_map.mpr ⟨s,List.mem_range.mpr q,rfl⟩),λs' h=>by cases h; exact q⟩
   ·rw[if_neg q];refine⟨?_,λs' h=>nomatch h⟩;unfold cF;rw[List.find?_eq_none.mpr λx hx=>?_]
    ·rfl
    ·obtain⟨i,hi,rfl⟩:=List.mem_map.mp hx
     have:=List.mem_range.mp hi
     rw[Bool.and_eq_true];rintro⟨z,_⟩
     have:=qL i (by omega) s (by omega) (of_decide_eq_true z)
     omega
  | two v a b=>
   have ey:y=a\/y=b:=by simpa [RK.about] using hy
   have hs:s<=1:=hs;have ht:=(show ∀ v,∀ t∈tpl v,t.1<2/\t.2.2<2 by decide) v;rw[oA ey];refine⟨aAm hk ey (by omega) (tpl v) λt h=>(ht t h).1,λs' h=>?_⟩;unfold nx2 at h;obtain⟨t,h1,rfl⟩:=Option.map_eq_some_iff.mp h;exact Nat.le_of_lt_succ (ht t (List.mem_of_find?_eq_some h1)).2
 ·rw[if_neg λz=>hy (kn.mp z)]
  have e:k.next s y=some s:=by
   cases k <;> simp only[RK.about,List.mem_cons,List.not_mem_nil,or_false] at hy <;> simp only[RK.next,if_neg hy]
  rw[e];exact⟨rfl,λs' h=>by cases h; exact hs⟩
theorem sV (k:RK)(hk:k.Wf):∀ (r:List Str) (s:Nat),s<=k.top->walk k.doors k.mw.kn (rN s) r=(k.due s r).map rN/\∀ s',k.due s r=some s'->s'<=k.top
 | [],s,hs=>⟨rfl,λs' h=>by cases h; exact hs⟩
 | y::r,s,hs=>by
  obtain⟨h1,h2⟩:=step k hk hs y;unfold walk RK.due;rw[h1];cases e:k.next s y with
  | none=>exact⟨rfl,λs' h=>by cases h⟩
  | some s1=>exact sV k hk r s1 (h2 s1 e)
theorem aQp (k:RK){s:Nat}(hk:k.Wf)(hs:s<=k.top):rN s∈k.ends↔(k.word≠"answer" \/ s=0):=by
 cases k with
 | never a=>
  obtain rfl:s=0:=Nat.le_zero.mp hs;exact⟨λ_=>.inr rfl,λ_=>.head _⟩
 | most a n=>
  have:s<=n:=hs
  exact⟨λ_=>.inl (show ("most" : Str)≠"answer" by decide +kernel),λ_=>List.mem_map.mpr ⟨s,List.mem_range.mpr (by omega),rfl⟩⟩
 | two v a b=>
  have h1:s<=1:=hs;simp only[RK.ends,RK.word]
  by_cases hv:v=3
  ·subst hv;rw[if_pos rfl,List.mem_singleton];exact⟨λh=>.inr (qL s (by omega) 0 (by decide) h),λh=>h.elim (λz=>absurd rfl z) λz=>by rw[z]⟩
  ·rw[if_neg hv];refine⟨λ_=>.inl ((show ∀ v:_root_.Fin 4,v≠3->wn v≠"answer" by decide +kernel) v hv),λ_=>?_⟩;rcases (show s=0\/s=1 by omega) with rfl | rfl <;> simp
theorem at0 (k:RK):atI k.wl 0=some (.str k.word):=by cases k <;> rfl
theorem at1 (k:RK):atI k.wl 1=some (.str k.one):=by cases k <;> rfl
section
variable {P:Program}{w:World}{K:PySem.W.Frag}{mg:xSO}{base:Heap}
inductive yR (vs:List V)(H:Hp)(Q:VK)(E:XK):Prop
 | mk (t:Addr)(k:RK)(h0_:vs=[.ref t])(h1_:H t=some (.tup k.wl))(h2_:∀ l H',aP H H'->H l=none->H' l=some (.lst (k.about.map V.str))->Q (.ref l) H')
theorem aXa:aR ["_law_rule"] ["_law_rule"] (aB xA):=xfs
theorem aGp {f:Addr}{fd:FuncData}(F:Fun K "_law_about" "_law_about" xA f fd):aQ P w K mg base CX0 1 f fd ["_law_rule"] yR:=by
 refine F.ok aXa (λvs H Q E h=>?_) (λcdv A outer s H vs Q E hr h=>?_)
 ·obtain⟨t,k,rfl,_⟩:=h;rfl
 ·obtain⟨t,k,rfl,ht,q⟩:=h
  refine⟨_,aJ (cK (aV (show OpR _ _ (rIn K false) from kE) (cG cV (pv 0) aN (λ_ _=>rfl)) (dL (pac aO (pac aO aF))) (by with_unfolding_all rfl)) (aM (aU (cA (pac (cG cV (pv 0) aN (λ_ _=>rfl)) aF)))) bS)
   (aM (aU (cA (pac (cG cV (pv 0) aN (λ_ _=>rfl)) (pac (cG cV (pv 0) aN (λ_ _=>rfl)) aF))))),?_⟩
  refine⟨_,rfl,t,_,_,.str k.word,rfl,rfl,SqT.of ht,at0 k,by show 2<=sizeLine; decide,λp hp=>⟨p,_,rfl,.inr (SqT.of aE),rfl,rfl,_,rfl,?_⟩⟩;have ht1:=smu (o:=.tup [.str "never",.str "most"]) hp _ _ ht
  have e:inV (.str k.word) [.str "never",.str "most"]=decide (k.word="never" \/ k.word="most"):=by
   rw[show ([.str "never",.str "most"]:List V)=(["never","most"]:List Str).map V.str from rfl,iT]
   simp
  show if inV (.str k.word) [.str "never",.str "most"]=true then _ else _
  rw[e];cases k with
  | never a=>
   rw[if_pos (decide_eq_true (.inl rfl))];exact⟨_,rfl,t,_,_,.str a,rfl,rfl,SqT.of ht1,rfl,by show 1<=sizeLine; decide,λl hl=>q l _ ((smu hp).trans (smu hl)) ((smu hp).free hl) aE⟩
  | most a n=>
   rw[if_pos (decide_eq_true (.inr rfl))];exact⟨_,rfl,t,_,_,.str a,rfl,rfl,SqT.of ht1,rfl,by show 1<=sizeLine; decide,λl hl=>q l _ ((smu hp).trans (smu hl)) ((smu hp).free hl) aE⟩
  | two v a b=>
   exact eI (λz=>absurd (of_decide_eq_true z) ((show ∀ v:_root_.Fin 4,¬ (wn v="never" \/ wn v="most") by decide +kernel) v)) λ_=>⟨_,rfl,t,_,_,.str a,rfl,rfl,SqT.of ht1,rfl,_,rfl,t,_,_,.str b,rfl,rfl,SqT.of ht1,rfl,by show 2<=sizeLine; decide,λl hl=>q l _ ((smu hp).trans (smu hl)) ((smu hp).free hl) aE⟩
end
def oI (o:Option Nat):V:=match o with | none=>.non | some n=>.int n
inductive aIl (vs:List V)(H:Hp)(Q:VK)(E:XK):Prop
 | mk (t:Addr)(s:Nat)(y:Str)(k:RK)(h0_:vs=[.ref t,.int s,.str y])(h1_:H t=some (.tup k.wl))(hs:s<=k.top)(h2_:∀ H',aP H H'->Q (oI (k.next s y)) H')
theorem aXr {a b:Nat}{p q:Prop}(h:a=b)(x:p):if decide (V.int (a:Int)=V.int (b:Int))=true then p else q:=by rw[h,if_pos (decide_eq_true rfl)]; exact x
theorem aXs {a b:Nat}{p q:Prop}(h:a≠b)(x:q):if decide (V.int (a:Int)=V.int (b:Int))=true then p else q:=by rw[if_neg (λz=>h (by have:=V.int.inj (of_decide_eq_true z); omega))]; exact x
section
variable {P:Program}{w:World}{K:PySem.W.Frag}{mg:xSO}{base:Heap}
abbrev NNx:List Str:=["_law_rule","_law_state","_law_deed","_law_word","_law_one"]
theorem aTl:aR NNx ["_law_rule","_law_state","_law_deed"] (aB aIw):=xfs
theorem aNu {f fA:Addr}{fd fdA:FuncData}(F:Fun K "_law_next" "_law_next" aIw f fd)(T:Txt K mg)(GA:aQ P w K mg base CX0 1 fA fdA ["_law_rule"] yR)(kA:PySem.W.keepIn K (.ref fA)=true)(bA:aX K fdA ["_law_rule"] [])(mA:mg "_law_about" = some (.ref fA)):aQ P w K mg base CX0 2 f fd ["_law_rule","_law_state","_law_deed"] aIl:=by
 refine F.ok aTl (λvs H Q E h=>?_) (λcdv A outer s H vs Q E hr h=>?_)
 ·obtain⟨t,st,y,k,rfl,_⟩:=h;rfl
 ·obtain⟨t,st,y,k,rfl,ht,hs,q⟩:=h
  refine⟨_,aJ (aJg (i:=3) (j:=4) rfl aTl.nd rfl rfl (by decide) rfl rfl (pac (cG cV (pv 0) aN (λ_ _=>rfl)) (pac (cG cV (pv 0) aN (λ_ _=>rfl)) aF)) rfl)
   (aJ (cK (aV (show OpR _ _ (rIn K true) from kZ) (pv 2) (bX GA hr rfl mA kA bA .nil bZ (pac (pv 0) aF)) (by with_unfolding_all rfl)) (aM (aU (pv 1))) bS)
   (aJ (cK (aV eC (pv 3) aO (bC _)) (aM (aU eJ)) bS)
   (aJ (cK (aV eC (pv 3) aO (bC _)) (aM (aU (kC (aV zM (pv 1) (cG cV (pv 0) aN (λ_ _=>rfl)) (bC _)) (bV eK (pv 1) aN) eJ))) bS)
   (aJ (cK (aV eC (pv 3) aO (bC _)) (aM (aU (kC (nZ (aV eC (pv 2) (pv 4) (bC _)) (lQ (aV eC (pv 1) aN (bC _)))).pt aN eJ))) bS)
   (aJ (cK (aV eC (pv 3) aO (bC _)) (aM (aU (kC (aV eC (fS eC (pv 2) (pv 4) (bC _)) (fS eC (pv 1) aN (bC _)) (bC _)) (bV aJo aN (pv 1)) eJ))) bS)
   (aJ (cK (qM (aV eC (pv 3) aO (bC _)) (qM (aV eC (pv 2) (pv 4) (bC _)) (pH (aV eC (pv 1) aN (bC _))))).pt (aM (aU eJ)) bS)
   (aM (aU (iE aHp (by rfl) T.int Bo.int (pac (fS eC (pv 2) (pv 4) (bC _)) aF)))))))))),?_⟩
  refine⟨_,rfl,t,_,_,.str k.word,rfl,rfl,SqT.of ht,at0 k,_,rfl,t,_,_,.str k.one,rfl,rfl,SqT.of ht,at1 k,_,_,rfl,?_⟩;refine⟨_,rfl,_,rfl,t,k,rfl,ht,λl H1 s1 hl hl1=>⟨l,_,rfl,.inl (SqL.of hl1),rfl,iG _,_,rfl,eI (λg=>?_) (λg=>?_)⟩⟩
  ·have g':(!inV (.str y) (k.about.map V.str))=true:=g;rw[iT,Bool.not_eq_true',decide_eq_false_iff_not] at g';have q':=q H1 s1
   have e:k.next st y=some st:=by
    cases k <;> simp only[RK.about,List.mem_cons,List.not_mem_nil,or_false] at g' <;> simp only[RK.next,if_neg g']
   rw[e] at q';exact⟨_,rfl,q'⟩
  ·have g':y∈k.about:=Decidable.byContradiction λz=>g (by
    show (!inV (.str y) (k.about.map V.str))=true;rw[iT,decide_eq_false z];rfl)
   have ht1:=s1 _ _ ht;have q':=q H1 s1;have st0:∀ {p q:Prop},st=1->p->(if decide (V.int (st:Int)=V.int 1)=true then p else q):=λh x=>aXr (b:=1) h x
   have st1:∀ {p q:Prop},st≠1->q->(if decide (V.int (st:Int)=V.int 1)=true then p else q):=λh x=>aXs (b:=1) h x
   rcases k.six with⟨a,rfl⟩ | ⟨a,n,rfl⟩ | ⟨a,b,rfl⟩ | ⟨a,b,rfl⟩ | ⟨a,b,rfl⟩ | ⟨a,b,rfl⟩
   ·have e:(RK.never a).next st y=none:=by simp only[RK.next,if_pos (List.mem_singleton.mp g')]
    rw[e] at q';exact⟨_,rfl,rfl,_,rfl,ifT rfl q'⟩
   ·have ey:y=a:=List.mem_singleton.mp g';refine⟨_,rfl,rfl,_,rfl,ifF (by simp only[RK.word]; decide +kernel) ⟨_,rfl,rfl,_,rfl,ifT rfl ⟨_,rfl,_,rfl,t,_,_,.int n,rfl,rfl,SqT.of ht1,rfl,_,_,rfl,rfl,_,rfl,eI (λz=>?_) (λz=>?_)⟩⟩⟩
    ·have hlt:st<n:=by have:=of_decide_eq_true z; omega
     have e:(RK.most a n).next st y=some (st+1):=by simp only[RK.next,if_pos ey,if_pos hlt]
     rw[e] at q';exact⟨_,rfl,_,_,rfl,rfl,q'⟩
    ·have hlt:¬ st<n:=λy=>z (decide_eq_true (by omega));have e:(RK.most a n).next st y=none:=by simp only[RK.next,if_pos ey,if_neg hlt]
     rw[e] at q';exact q'
   ·have ey:y=a\/y=b:=by simpa [RK.about] using g'
    have nx:=sN (decide (y=a)) st (Nat.lt_succ_of_le hs);simp only[decide_eq_true_eq] at nx;refine⟨_,rfl,rfl,_,rfl,ifF (by simp only[RK.word]; decide +kernel) ⟨_,rfl,rfl,_,rfl,ifF (by simp only[RK.word]; decide +kernel) ⟨_,rfl,rfl,_,rfl,ifT rfl ⟨_,rfl,_,rfl,rfl,_,rfl,eI (λz=>?_) (λz=>⟨_,rfl,rfl,_,rfl,eI (λz2=>?_) (λz2=>?_)⟩)⟩⟩⟩⟩
    ·have h1:y=a:=V.str.inj (of_decide_eq_true z);have e:(RK.two 0 a b).next st y=some 1:=by rw[oA ey,nx.1,if_pos (Or.inl h1)]
     rw[e] at q';exact gX q'
    ·have h1:st=1:=Int.ofNat.inj (V.int.inj (of_decide_eq_true z2));have e:(RK.two 0 a b).next st y=some 1:=by rw[oA ey,nx.1,if_pos (Or.inr h1)]
     rw[e] at q';exact q'
    ·have h1:¬ (y=a\/st=1):=λh=>h.elim (λh=>z (decide_eq_true (by rw[h]; rfl))) λh=>z2 (decide_eq_true (by rw[h]; rfl));have e:(RK.two 0 a b).next st y=none:=by rw[oA ey,nx.1,if_neg h1]
     rw[e] at q';exact q'
   ·have ey:y=a\/y=b:=by simpa [RK.about] using g'
    have nx:=sN (decide (y=a)) st (Nat.lt_succ_of_le hs);simp only[decide_eq_true_eq] at nx;have hs1:st<=1:=hs;have e1:decide (V.str y=V.str (RK.two 1 a b).one)=decide (y=a):=by rw[decide_eq_decide]; exact⟨V.str.inj,congrArg V.str⟩
    have e2:decide (V.int (st:Int)=V.int 0)=decide (st=0):=by rw[decide_eq_decide]; exact⟨λh=>Int.ofNat.inj (V.int.inj h),λh=>by rw[h]; rfl⟩
    refine⟨_,rfl,rfl,_,rfl,ifF (by simp only[RK.word]; decide +kernel) ⟨_,rfl,rfl,_,rfl,ifF (by simp only[RK.word]; decide +kernel) ⟨_,rfl,rfl,_,rfl,ifF (by simp only[RK.word]; decide +kernel) ⟨_,rfl,rfl,_,rfl,ifT rfl ⟨_,rfl,_,rfl,rfl,_,rfl,rfl,rfl,_,rfl,eI (λz=>?_) (λz=>?_)⟩⟩⟩⟩⟩
    ·have z':=V.bl.inj (of_decide_eq_true z);rw[e1,e2] at z';have hif:(y=a↔st=0):=decide_eq_decide.mp z';have e:(RK.two 1 a b).next st y=some (1-st):=by rw[oA ey,nx.2.1,if_pos hif]
     rw[e] at q';refine⟨_,rfl,_,_,rfl,rfl,?_⟩;rw[show (1:Int)-(st:Int)=((1-st:Nat):Int) by omega];exact q'
    ·have hif:¬ (y=a↔st=0):=λh=>z (decide_eq_true (congrArg V.bl (by rw[e1,e2]; exact decide_eq_decide.mpr h)));have e:(RK.two 1 a b).next st y=none:=by rw[oA ey,nx.2.1,if_neg hif]
     rw[e] at q';exact q'
   ·have ey:y=a\/y=b:=by simpa [RK.about] using g'
    have nx:=sN (decide (y=a)) st (Nat.lt_succ_of_le hs);simp only[decide_eq_true_eq] at nx
    by_cases h1:y=a
    ·subst h1
     by_cases h2:st=1
     ·have e:(RK.two 2 y b).next st y=none:=by rw[oA ey,nx.2.2.1,if_pos ⟨rfl,h2⟩]
      rw[e] at q';exact⟨_,rfl,rfl,_,rfl,ifF (by simp only[RK.word]; decide +kernel) ⟨_,rfl,rfl,_,rfl,ifF (by simp only[RK.word]; decide +kernel) ⟨_,rfl,rfl,_,rfl,ifF (by simp only[RK.word]; decide +kernel) ⟨_,rfl,rfl,_,rfl,ifF (by simp only[RK.word]; decide +kernel) ⟨_,rfl,rfl,_,rfl,ifT rfl ⟨_,rfl,_,rfl,rfl,_,rfl,ifT rfl ⟨_,rfl,rfl,_,rfl,st0 h2 q'⟩⟩⟩⟩⟩⟩⟩
     ·have e:(RK.two 2 y b).next st y=some 1:=by rw[oA ey,nx.2.2.1,if_neg (λz=>h2 z.2),if_pos rfl]
      rw[e] at q';refine⟨_,rfl,rfl,_,rfl,ifF (by simp only[RK.word]; decide +kernel) ⟨_,rfl,rfl,_,rfl,ifF (by simp only[RK.word]; decide +kernel) ⟨_,rfl,rfl,_,rfl,ifF (by simp only[RK.word]; decide +kernel) ⟨_,rfl,rfl,_,rfl,ifF (by simp only[RK.word]; decide +kernel) ⟨_,rfl,rfl,_,rfl,ifT rfl ⟨_,rfl,_,rfl,rfl,_,rfl,ifT rfl ⟨_,rfl,rfl,_,rfl,st1 h2 ⟨_,rfl,_,rfl,rfl,.inr ⟨_,rfl,?_⟩⟩⟩⟩⟩⟩⟩⟩⟩;rw[decide_eq_true (show V.str y=V.str (RK.two 2 y b).one from rfl)]
      exact q'
    ·have e:(RK.two 2 a b).next st y=some 0:=by rw[oA ey,nx.2.2.1,if_neg (λz=>h1 z.1),if_neg h1]
     rw[e] at q';refine⟨_,rfl,rfl,_,rfl,ifF (by simp only[RK.word]; decide +kernel) ⟨_,rfl,rfl,_,rfl,ifF (by simp only[RK.word]; decide +kernel) ⟨_,rfl,rfl,_,rfl,ifF (by simp only[RK.word]; decide +kernel) ⟨_,rfl,rfl,_,rfl,ifF (by simp only[RK.word]; decide +kernel) ⟨_,rfl,rfl,_,rfl,ifT rfl ⟨_,rfl,_,rfl,rfl,_,rfl,ifF h1 ⟨_,rfl,_,rfl,rfl,.inr ⟨_,rfl,?_⟩⟩⟩⟩⟩⟩⟩⟩;rw[decide_eq_false (show ¬ V.str y=V.str (RK.two 2 a b).one from λz=>h1 (V.str.inj z))]
     exact q'
   ·have ey:y=a\/y=b:=by simpa [RK.about] using g'
    have nx:=sN (decide (y=a)) st (Nat.lt_succ_of_le hs);simp only[decide_eq_true_eq] at nx;have e:(RK.two 3 a b).next st y=some (if y=a then 1 else 0):=by rw[oA ey,nx.2.2.2]
    rw[e] at q';refine⟨_,rfl,rfl,_,rfl,ifF (by simp only[RK.word]; decide +kernel) ⟨_,rfl,rfl,_,rfl,ifF (by simp only[RK.word]; decide +kernel) ⟨_,rfl,rfl,_,rfl,ifF (by simp only[RK.word]; decide +kernel) ⟨_,rfl,rfl,_,rfl,ifF (by simp only[RK.word]; decide +kernel) ⟨_,rfl,rfl,_,rfl,ifF (by simp only[RK.word]; decide +kernel) ⟨_,rfl,_,rfl,rfl,.inr ⟨_,rfl,?_⟩⟩⟩⟩⟩⟩⟩
    by_cases h1:y=a
    ·rw[if_pos h1] at q';rw[decide_eq_true (show V.str y=V.str (RK.two 3 a b).one from congrArg V.str h1)]
     exact q'
    ·rw[if_neg h1] at q';rw[decide_eq_false (show ¬ V.str y=V.str (RK.two 3 a b).one from λz=>h1 (V.str.inj z))]
     exact q'
end
end
end K35
namespace K35
open PySem L2 Ky PySem.W
seal L2.PE L2.PS L2.PSs L2.PA L2.PT L2.PW L2.PG L2.PI L2.PTs L2.OpR L2.IxR L2.CallR L2.MtM L2.MtR
unseal L2.MtM L2.MtR
structure TD (ss fs:List Str):Prop where
 l2:2<=ss.length
 le:ss.length<=12
 nd:ss.Nodup
 m12:∀ z∈ss,z∈kS
 fr:∀ z∈fs,z∈ss
 fl:fs.length<=12
theorem aSn (c:Int)(h:2<=(eB (c/256) (gF c)).length):TD (eB (c/256) (gF c)) (rG c (eB (c/256) (gF c))):=by
 have hl:(eB (c/256) (gF c)).length<=12:=by unfold eB; rw[xAa,xBu]; exact nM _
 exact⟨h,hl,uZ _ (nM _),λz hz=>zU hz,λz hz=>aDc hz,xAn (aDd _ _) hl⟩
theorem aQf:TD ["go","r0"] ["r0"]:=⟨by decide,by decide,by decide +kernel,by decide +kernel,by decide +kernel,by decide⟩
inductive aIj (vs:List V)(H:Hp)(Q:VK)(E:XK):Prop
 | mk (c:Int)(h0_:vs=[.int c])(h1_:∀ (t l m:Addr) (ss fs:List Str) H',TD ss fs->aP H H'->H' t=some (.tup [.ref l,.ref m])->H' l=some (.lst (ss.map V.str))->H' m=some (.lst (fs.map V.str))->Q (.ref t) H')
section
variable {P:Program}{w:World}{K:xAb}{mg:xSO}{base:Heap}
theorem aQs:aR ["_law_cell","_law_names","_law_free"] ["_law_cell"] (aB aQx):=xfs
theorem aNs {f fD:Addr}{fd fdD:FuncData}(F:Fun K "_law_two_deeds" "_law_two_deeds" aQx f fd)(T:Txt K mg)(GD:aQ P w K mg base CX0 2 fD fdD ["_law_cell"] (vR K))(kD:keepIn K (.ref fD)=true)(bD:aX K fdD ["_law_cell"] [])(mD:mg "_law_deeds_by" = some (.ref fD)):aQ P w K mg base CX0 3 f fd ["_law_cell"] aIj:=by
 refine F.ok aQs (λvs H Q E h=>?_) (λcdv A outer s H vs Q E hr h=>?_)
 ·obtain⟨c,rfl,_⟩:=h;rfl
 ·obtain⟨c,rfl,q⟩:=h
  refine⟨_,aJ (xE (bX GD hr rfl mD kD bD .nil bZ (pac (pv 0) aF)) (eO rfl (aY (aS (i:=1) aQs.nd rfl (xAy rfl)) (aY (aS (i:=2) aQs.nd rfl (xAy rfl)) dO))))
   (aJ (cK (aV zM (cB cL (by rfl) T.len Bo.len (pac (pv 1) aF)) aN (bC _)) (aM (aU (dL (pac (cA (pac aO (pac aO aF))) (pac (cA (pac aO aF)) aF))))) bS)
   (aM (aU (dL (pac (pv 1) (pac (pv 2) aF)))))),?_⟩
  refine⟨_,rfl,c,rfl,λt l m H1 s1 ht hl hm=>⟨t,_,rfl,SqT.of ht,rfl,_,_,rfl,_,_,rfl,rfl,?_⟩⟩;refine⟨_,rfl,l,_,rfl,.inl (SqL.of hl),_,_,rfl,rfl,_,rfl,eI (λg=>?_) (λg=>?_)⟩
  ·refine⟨by show 2<=sizeLine; decide,λp1 hp1=>⟨by show 1<=sizeLine; decide,λp2 hp2=>⟨by show 2<=sizeLine; decide,λp3 hp3=>?_⟩⟩⟩;exact q p3 p1 p2 _ _ _ aQf (s1.trans ((smu hp1).trans ((smu hp2).trans (smu hp3)))) aE (smu hp3 _ _ (smu hp2 _ _ aE)) (smu hp3 _ _ aE)
  ·have h2:2<=(eB (c/256) (gF c)).length:=Decidable.byContradiction λz=>g (xAk (by rw[xAa]; omega));exact⟨_,rfl,_,rfl,by show 2<=sizeLine; decide,λp3 hp3=>q p3 l m _ _ _ (aSn c h2) (s1.trans (smu hp3)) aE (smu hp3 _ _ hl) (smu hp3 _ _ hm)⟩
abbrev six:List Str:=["never","most","ahead","turns","hold","answer"]
inductive aEc (K:xAb)(vs:List V)(H:Hp)(Q:VK)(E:XK):Prop
 | mk (c:Int)(n:Addr)(ss:List Str)(h0_:vs=[.int c,.ref n])(h1_:SqL K H n (ss.map V.str))(h2_:2<=ss.length/\ss.length<=12)(h3_:ss.Nodup)(h4_:∀ (t:Addr) (k:RK) H',aP H H'->k.Wf->(∀ z∈k.about,z∈ss)->H' t=some (.tup k.wl)->Q (.ref t) H')
abbrev NDr:List Str:=["_law_cell","_law_names","_law_word","_law_one","_law_other"]
theorem aNc:aR NDr ["_law_cell","_law_names"] (aB aBr):=xfs
theorem aMd {u v L:Int}(h0:0<=v)(h1:v<L-1):(u+1+v)%L≠u%L:=λe=>by
 have e2:(u+1+v-u)%L=0:=(Int.emod_eq_emod_iff_emod_sub_eq_zero).mp e;rw[show u+1+v-u=1+v by omega,Int.emod_eq_of_lt (by omega) (by omega)] at e2;omega
theorem aKp {f:Addr}{fd:FuncData}(F:Fun K "_law_drawn" "_law_drawn" aBr f fd)(T:Txt K mg):aQ P w K mg base CX0 1 f fd ["_law_cell","_law_names"] (aEc K):=by
 refine F.ok aNc (λvs H Q E h=>?_) (λcdv A outer s H vs Q E hr h=>?_)
 ·obtain⟨c,n,ss,rfl,_⟩:=h;rfl
 ·obtain⟨c,n,ss,rfl,hS,⟨h2,h12⟩,hnd,q⟩:=h
  refine⟨_,aJ (bJ (i:=2) aNc.nd rfl (xAy rfl) (cG dG (cA (pac aO (pac aO (pac aO (pac aO (pac aO (pac aO aF))))))) (bV dQ (pv 0) aN) (λ_ _=>rfl)))
   (aJ (bJ (i:=3) aNc.nd rfl (xAy rfl) (cG dG (pv 1) (bV dQ (bV gJ (pv 0) aN) (cB cL (by rfl) T.len Bo.len (pac (pv 1) aF))) (λ_ _=>rfl)))
   (aJ (bJ (i:=4) aNc.nd rfl (xAy rfl) (cG dG (pv 1) (bV dQ (bV eK (bV eK (bV gJ (pv 0) aN) aN) (bV dQ (bV gJ (pv 0) aN) (bV aJo (cB cL (by rfl) T.len Bo.len (pac (pv 1) aF)) aN))) (cB cL (by rfl) T.len Bo.len (pac (pv 1) aF))) (λ_ _=>rfl)))
   (aJ (cK (aV eC (pv 2) aO (bC _)) (aM (aU (dL (pac (pv 2) (pac (pv 3) aF))))) bS)
   (aJ (cK (aV eC (pv 2) aO (bC _)) (aM (aU (dL (pac (pv 2) (pac (pv 3) (pac (bV dQ (bV gJ (pv 0) aN) aN) aF)))))) bS)
   (aM (aU (dL (pac (pv 2) (pac (pv 3) (pac (pv 4) aF)))))))))),?_⟩
  have g6:=cX c (m:=6) (by decide);have g7:=cX (c/144) (m:=7) (by decide);have lm:((ss.map V.str).length:Int)=ss.length:=by rw[xAa]
  have gi:=cX (c/6) (m:=(ss.length:Int)) (by omega);have gv:=cX (c/72) (m:=(ss.length:Int)-1) (by omega);have gj:=cX (c/6+1+c/72%((ss.length:Int)-1)) (m:=(ss.length:Int)) (by omega);have hne:=aMd (u:=c/6) gv.1 gv.2;refine⟨by show 6<=sizeLine; decide,λp1 hp1=>⟨_,rfl,_,_,rfl,rfl,(by show (0:Int)<6; decide),p1,_,_,V.str (six.getD (c%6).toNat ""),rfl,rfl,SqL.of aE,gI V.str six "" g6.1 g6.2,?_⟩⟩;have s1:=smu (o:=.lst [V.str "never",V.str "most",V.str "ahead",V.str "turns",V.str "hold",V.str "answer"]) hp1;generalize upd H p1 (.lst [V.str "never",V.str "most",V.str "ahead",V.str "turns",V.str "hold",V.str "answer"])=H1 at s1 ⊢;have hS1:=s1.seq hS;refine⟨_,rfl,_,rfl,_,_,rfl,rfl,⟨by decide,by decide⟩,_,rfl,n,_,rfl,.inl hS1,_,_,rfl,rfl,(by rw[lm]; omega),n,_,_,.str (ss.getD (c/6%(ss.length:Int)).toNat ""),rfl,rfl,hS1,by rw[lm]; exact gI V.str ss "" gi.1 gi.2,?_⟩;refine⟨_,rfl,_,rfl,_,_,rfl,rfl,⟨by decide,by decide⟩,_,_,rfl,rfl,_,rfl,_,_,rfl,rfl,⟨by decide,by decide⟩,_,rfl,n,_,rfl,.inl hS1,_,_,rfl,rfl,_,_,rfl,rfl,(by rw[lm]; omega),_,_,rfl,rfl,_,rfl,n,_,rfl,.inl hS1,_,_,rfl,rfl,(by rw[lm]; omega),n,_,_,.str (ss.getD ((c/6+1+c/72%((ss.length:Int)-1))%(ss.length:Int)).toNat ""),rfl,rfl,hS1,by rw[lm]; exact gI V.str ss "" gj.1 gj.2,?_⟩;obtain⟨i,ei,hi⟩:∃ i:Nat,c/6%(ss.length:Int)=i/\i<ss.length:=⟨(c/6%(ss.length:Int)).toNat,by omega,by omega⟩;obtain⟨j,ej,hj⟩:∃ j:Nat,(c/6+1+c/72%((ss.length:Int)-1))%(ss.length:Int)=j/\j<ss.length:=⟨((c/6+1+c/72%((ss.length:Int)-1))%(ss.length:Int)).toNat,by omega,by omega⟩;rw[ei,ej] at hne;rw[ei,ej,xDp,xDp];have ha:ss[i]?=some (ss.getD i ""):=by rw[xBl,xAe hi]; rfl
  have hb:ss[j]?=some (ss.getD j ""):=by rw[xBl,xAe hj]; rfl
  generalize ss.getD i ""=a at ha ⊢;generalize ss.getD j ""=b at hb ⊢;have hab:a≠b:=λe=>hne (by rw[(xDa (i:=i) (j:=j) hi hnd).mp (by rw[ha,hb,e])]);have ma:=xBa ha;have mb:=xBa hb;have two:∀ (v:_root_.Fin 4) t,H1 t=none->Q (.ref t) (upd H1 t (.tup [.str (wn v),.str a,.str b])):=λv t ht=>q t (.two v a b) _ (s1.trans (smu ht)) hab (λz hz=>(xAo.mp hz).elim (λe=>e▸ma) λh=>xAi.mp h▸mb) aE;obtain⟨m,em⟩:∃ m:Nat,(c%6).toNat=m/\m<6:=⟨_,rfl,by omega⟩;rw[em.1]
  match m,em.2 with
  | 0,_=>exact⟨_,rfl,rfl,_,rfl,ifT rfl ⟨_,rfl,_,rfl,by show 2<=sizeLine; decide,λt ht=>q t (.never a) _ (s1.trans (smu ht)) trivial (λz hz=>xAi.mp hz▸ma) aE⟩⟩
  | 1,_=>
   obtain⟨r,er⟩:∃ r:Nat,c/144%7=r:=⟨(c/144%7).toNat,by omega⟩;refine⟨_,rfl,rfl,_,rfl,ifF (by decide +kernel) ⟨_,rfl,rfl,_,rfl,ifT rfl ⟨_,rfl,_,rfl,_,rfl,_,_,rfl,rfl,⟨by decide,by decide⟩,_,_,rfl,rfl,(by show (0:Int)<7; decide),by show 3<=sizeLine; decide,λt ht=>?_⟩⟩⟩;rw[er];exact q t (.most a r) _ (s1.trans (smu ht)) (show r<=6 by omega) (λz hz=>xAi.mp hz▸ma) aE
  | 2,_=>exact⟨_,rfl,rfl,_,rfl,ifF (by decide +kernel) ⟨_,rfl,rfl,_,rfl,ifF (by decide +kernel) ⟨_,rfl,_,rfl,_,rfl,by show 3<=sizeLine; decide,λt ht=>two 0 t ht⟩⟩⟩
  | 3,_=>exact⟨_,rfl,rfl,_,rfl,ifF (by decide +kernel) ⟨_,rfl,rfl,_,rfl,ifF (by decide +kernel) ⟨_,rfl,_,rfl,_,rfl,by show 3<=sizeLine; decide,λt ht=>two 1 t ht⟩⟩⟩
  | 4,_=>exact⟨_,rfl,rfl,_,rfl,ifF (by decide +kernel) ⟨_,rfl,rfl,_,rfl,ifF (by decide +kernel) ⟨_,rfl,_,rfl,_,rfl,by show 3<=sizeLine; decide,λt ht=>two 2 t ht⟩⟩⟩
  | 5,_=>exact⟨_,rfl,rfl,_,rfl,ifF (by decide +kernel) ⟨_,rfl,rfl,_,rfl,ifF (by decide +kernel) ⟨_,rfl,_,rfl,_,rfl,by show 3<=sizeLine; decide,λt ht=>two 3 t ht⟩⟩⟩
inductive aIk (K:xAb)(vs:List V)(H:Hp)(Q:VK)(E:XK):Prop
 | mk (c:Int)(n:Addr)(ss:List Str)(h0_:vs=[.int c,.ref n,.int 12])(h1_:SqL K H n (ss.map V.str))(h2_:1<=ss.length)(h3_:∀ (l:Addr) (row:List Str) H',aP H H'->H l=none->H' l=some (.lst (row.map V.str))->(∀ z∈row,z∈ss)->row.length<=12->Q (.ref l) H')
abbrev NRo:List Str:=["_law_cell","_law_names","_law_most"]
theorem aTi:aR NRo NRo (aB aNe):=xfs
abbrev nd7:List Str:=["_law_k","_law_names","_law_cell"]
theorem aNt {f fM:Addr}{fd fdM:FuncData}(F:Fun K "_law_row" "_law_row" aNe f fd)(T:Txt K mg)(GM:aQ P w K mg base CX0 1 fM fdM ["_law_cell","_law_k"] oW)(kM:keepIn K (.ref fM)=true)(bM:aX K fdM ["_law_cell","_law_k"] [])(mM:mg "_law_mixed" = some (.ref fM)):aQ P w K mg base CX0 2 f fd NRo (aIk K):=by
 refine F.ok aTi (λvs H Q E h=>?_) (λcdv A outer s H vs Q E hr h=>?_)
 ·obtain⟨c,n,ss,rfl,_⟩:=h;rfl
 ·obtain⟨c,n,ss,rfl,hS,h1,q⟩:=h
  refine⟨_,aM (aU (eN (N':=nd7) (nown:=1) (js:=[1,0]) rfl xbs (cJ (aB aNe) NRo rfl rfl (by decide +kernel))
    ⟨λ_ _ _ _=>aS (i:=0) (show List.Nodup nd7 by decide +kernel) rfl (xAy rfl) (.inr rfl),λ_ _ _ _=>eV,
     λ_ _ _ _=>cG (show IxR _ (sC K) from dG) (pv 1) (bV dQ (bX GM hr rfl mM kM bM .nil bZ (pac (pv 2) (pac (bV eK aN (pv 0)) aF))) (cB (show CallR _ _ (aMl K) from cL) (by rfl) T.len Bo.len (pac (pv 1) aF))) (λ_ _=>rfl)⟩
    (gW rfl T.range (pac (bV dQ (pv 0) (bV eK (pv 2) aN)) aF)))),?_⟩
  have g31:=cX c (m:=13) (by decide);obtain⟨m,em,hm⟩:∃ m:Nat,c%13=m/\m<=12:=⟨(c%13).toNat,by omega,by omega⟩;refine⟨_,rfl,_,rfl,_,_,rfl,rfl,_,_,rfl,rfl,(by show (0:Int)<12+1; decide),(m:Int),(by show [V.int (c%(12+1))]=[V.int m]; rw[show (12:Int)+1=13 from rfl,em]),by omega,by omega,λD hD=>iH (n:=m) (lo:=0) (λi σ' H'=>∃ v,σ'=[v,some (.ref n),some (.int c)]/\(∃ row:List Str,H' D=some (.lst (row.map V.str))/\row.length=i/\∀ z∈row,z∈ss)/\aP H H') ?_ ?_ ?_⟩
  ·exact⟨none,rfl,⟨[],aE,rfl,λz hz=>(nomatch hz)⟩,smu hD⟩
  ·rintro i σ' H' hi ⟨v,rfl,⟨row,h4,h5,h6⟩,sm⟩;have lm:((ss.map V.str).length:Int)=ss.length:=by rw[xAa]
   have gi:=cX (RW.mixed c (40+(0+(i:Int)))) (m:=(ss.length:Int)) (by omega);refine⟨_,rfl,_,rfl,_,rfl,_,_,rfl,rfl,c,_,rfl,_,rfl,n,_,rfl,.inl (sm.seq hS),_,_,rfl,rfl,(by rw[lm]; omega),n,_,_,.str (ss.getD (RW.mixed c (40+(0+(i:Int)))%(ss.length:Int)).toNat ""),rfl,rfl,sm.seq hS,by rw[lm]; exact gI V.str ss "" gi.1 gi.2,_,h4,bO (by rw[xAa]; omega),_,rfl,⟨row++[ss.getD (RW.mixed c (40+(0+(i:Int)))%(ss.length:Int)).toNat ""],by rw[aE,xAm]; rfl,by rw[xAr,h5]; rfl,λz hz=>?_⟩,λb o e=>?_⟩
   ·rcases xBy.mp hz with hz | hz
    ·exact h6 z hz
    ·rw[xAi.mp hz,xBl,xAe (by omega)];exact xCg _
   ·rw[aL (aI e hD)];exact sm _ _ e
  ·rintro σ' H' ⟨v,rfl,⟨row,h4,h5,h6⟩,sm⟩;exact q D row H' sm hD h4 h6 (by omega)
theorem aAj (k:RK)(y:Str):∀ (r:List Str) (s:Nat),k.due s (r++[y])=(k.due s r).bind λz=>k.next z y
 | [],s=>by
  show (match k.next s y with | none=>none | some s'=>some s')=k.next s y
  cases k.next s y <;> rfl
 | u::r,s=>by
  rw[xFa];unfold RK.due;cases k.next s u with
  | none=>rfl
  | some s'=>exact aAj k y r s'
inductive vS (K:xAb)(vs:List V)(H:Hp)(Q:VK)(E:XK):Prop
 | mk (t r:Addr)(k:RK)(row:List Str)(h0_:vs=[.ref t,.ref r])(h1_:H t=some (.tup k.wl))(h2_:k.Wf)(h3_:SqL K H r (row.map V.str))(h4_:∀ H',aP H H'->Q (oI (k.due 0 row)) H')
abbrev NCo:List Str:=["_law_words","_law_row_here","_law_state","_law_deed"]
theorem aNd:aR NCo ["_law_words","_law_row_here"] (aB tN):=xfs
theorem aCi {f fN:Addr}{fd fdN:FuncData}(F:Fun K "_law_counted" "_law_counted" tN f fd)(GN:aQ P w K mg base CX0 2 fN fdN ["_law_rule","_law_state","_law_deed"] aIl)(kN:keepIn K (.ref fN)=true)(bN:aX K fdN ["_law_rule","_law_state","_law_deed"] [])(mN:mg "_law_next" = some (.ref fN)):aQ P w K mg base CX0 3 f fd ["_law_words","_law_row_here"] (vS K):=by
 refine F.ok aNd (λvs H Q E h=>?_) (λcdv A outer s H vs Q E hr h=>?_)
 ·obtain⟨t,r,k,row,rfl,_⟩:=h;rfl
 ·obtain⟨t,r,k,row,rfl,ht,hk,hS,q⟩:=h
  refine⟨_,aJ (bJ (i:=2) aNd.nd rfl (xAy rfl) aN)
   (aJ (dZ PassesOwn.never rfl (cU (pv 1)) (aS (i:=3) aNd.nd rfl (xAy rfl))
    (aM (bJ (i:=2) aNd.nd rfl (xAy rfl) (kC (aV aBz (pv 2) eJ (bC _)) eJ (bX GN hr rfl mN kN bN .nil bZ (pac (pv 0) (pac (pv 2) (pac (pv 3) aF))))))))
   (aM (aU (pv 2)))),?_⟩
  refine⟨_,rfl,r,rfl,⟨_,hS⟩,?_⟩;refine dE (xs:=row.map V.str) (λi σ H'=>∃ (x3:Option V),σ=[some (.ref t),some (.ref r),some (oI (k.due 0 (row.take i))),x3]/\aP H H') ?_ ?_ ?_ ?_
  ·exact⟨none,rfl,aP.refl H⟩
  ·rintro i σ H' _ ⟨x3,rfl,sm⟩;exact sm.seq hS
  ·rintro i v σ H' hv ⟨x3,rfl,sm⟩;rw[xAf] at hv;cases hy:row[i]? with
   | none=>rw[hy] at hv; cases hv
   | some y=>
    rw[hy] at hv;cases hv
    have e:k.due 0 (row.take (i+1))=(k.due 0 (row.take i)).bind λz=>k.next z y:=by
     rw[xBf,hy];exact aAj k y _ 0
    have top:=(sV k hk (row.take i) 0 (xBr _)).2;rw[e];cases hd:k.due 0 (row.take i) with
    | none=>exact⟨_,rfl,rfl,_,rfl,gX ⟨_,rfl,sm⟩⟩
    | some z=>exact⟨_,rfl,rfl,_,rfl,fX ⟨_,rfl,_,rfl,_,rfl,t,z,y,k,rfl,sm _ _ ht,top z hd,λH1 s1=>⟨_,rfl,sm.trans s1⟩⟩⟩
  ·rintro σ H' ⟨x3,rfl,sm⟩;rw[xAa,xAx];exact⟨_,rfl,q H' sm⟩
theorem vC (ds:List Dr)(kn:List Str)(y:Str):∀ (r:List Str) (b:Str),walk ds kn b (r++[y])=(walk ds kn b r).bind λz=>gH ds kn z y
 | [],b=>by
  show (match gH ds kn b y with | none=>none | some z'=>some z')=gH ds kn b y
  cases gH ds kn b y <;> rfl
 | u::r,b=>by
  rw[xFa];unfold walk;cases gH ds kn b u with
  | none=>rfl
  | some z=>exact vC ds kn y r z
theorem aHi {ds:List Dr}{x:Dr}(ap:Ky.Apart (ds++[x]))(z y:Str):cF (ds++[x]) z y=if z=x.1/\y=x.2.1 then some x.2.2 else cF ds z y:=by
 by_cases h:z=x.1/\y=x.2.1
 ·rw[xAu h,h.1,h.2];exact xV ap (xBn _ (.head _))
 ·rw[xAt h];unfold cF;rw[List.find?_append,List.find?_cons_of_neg (λq=>?_),List.find?_nil,Option.or_none];have q:=(xBh _ _).mp q;exact h ⟨(xAg q.1).symm,(xAg q.2).symm⟩
theorem aDh {ds:List Dr}(h:Ky.Apart ds)(i:Nat):Ky.Apart (ds.take i):=List.Pairwise.sublist ((xHe i ds).map _) h
theorem aUh {a b c d:Str}:([Sum.inr a,Sum.inr b]:List Key)=[Sum.inr c,Sum.inr d]↔a=c/\b=d:=by simp
inductive yI (K:xAb)(vs:List V)(H:Hp)(Q:VK)(E:XK):Prop
 | mk (t r e d m:Addr)(b:Str)(ms row:List Str)(ds:List Dr)(h0_:vs=[.ref t,.ref r])(h1_:H t=some (.tup [.str b,.ref e,.ref d,.ref m]))(h2_:cQ H d ds)(h3_:H m=some (.lst (ms.map V.str)))(h4_:Ky.Apart ds)(h5_:ds.length<=60/\ms.length<=60)(h6_:SqL K H r (row.map V.str))
  (h7_:∀ H',aP H H'->Q (oV (walk ds (aZ ds ms) b row)) H')
abbrev NWa:List Str:=["_law_told","_law_row_here","_law_begin","_law_ends","_law_doors","_law_more","_law_known","_law_leads","_law_room","_law_deed","_law_there"]
theorem sB:aR NWa ["_law_told","_law_row_here"] (aB sK):=xfs
abbrev ndW:List Str:=["_law_door"]
theorem aFv {f:Addr}{fd:FuncData}(F:Fun K "_law_walked" "_law_walked" sK f fd):aQ P w K mg base CX0 1 f fd ["_law_told","_law_row_here"] (yI K):=by
 refine F.ok sB (λvs H Q E h=>?_) (λcdv A outer s H vs Q E hr h=>?_)
 ·obtain⟨t,r,e,d,m,b,ms,row,ds,rfl,_⟩:=h;rfl
 ·obtain⟨t,r,e,d,m,b,ms,row,ds,rfl,ht,hD,hm,hap,⟨hl1,hl2⟩,hS,q⟩:=h;have hu:=jH hr
  refine⟨_,aJ (xE (pv 0) (eO rfl (aY (aS (i:=2) sB.nd rfl (xAy rfl)) (aY (aS (i:=3) sB.nd rfl (xAy rfl)) (aY (aS (i:=4) sB.nd rfl (xAy rfl)) (aY (aS (i:=5) sB.nd rfl (xAy rfl)) dO))))))
   (aJ (bJ (i:=6) sB.nd rfl (xAy rfl) (bV tX (eN (N':=ndW) (nown:=1) (js:=[]) rfl xbs (cJ (aB sK) NWa rfl rfl (by decide +kernel))
     ⟨λ_ _ _ _=>aS (i:=0) (show List.Nodup ndW by decide +kernel) rfl (xAy rfl) (.inr rfl),λ_ _ _ _=>eV,λ_ _ _ _=>cG (show IxR _ (aBy K) from cV) (pv 0) aN (λ_ _=>rfl)⟩ (cU (pv 4))) (pv 5)))
   (aJ (bJ (i:=7) sB.nd rfl (xAy rfl) zJ)
   (aJ (dZ PassesOwn.never rfl (cU (pv 4)) (eO rfl (aY (aS (i:=8) sB.nd rfl (xAy rfl)) (aY (aS (i:=9) sB.nd rfl (xAy rfl)) (aY (aS (i:=10) sB.nd rfl (xAy rfl)) dO))))
    (aM (jR hu (pv 7) (dL (pac (pv 8) (pac (pv 9) aF))) (pv 10) rfl)))
   (aJ (dZ PassesOwn.never rfl (cU (pv 1)) (aS (i:=9) sB.nd rfl (xAy rfl))
    (aM (cK (qM (aV jS (pv 2) eJ (bC _)) (pH (aV (show OpR _ _ (rIn K false) from kE) (pv 9) (pv 6) (by with_unfolding_all rfl)))).pt
     (aM (bJ (i:=2) sB.nd rfl (xAy rfl) (tV hu (pv 7) (dL (pac (pv 2) (pac (pv 9) aF))) ⟨by rfl,by rfl,by rfl,by rfl⟩))) bS)))
   (aM (aU (pv 2))))))),?_⟩
  obtain⟨ts,hd,htl,htt⟩:=hD.ex;refine⟨_,rfl,t,_,rfl,SqT.of ht,rfl,_,_,rfl,_,_,rfl,_,_,rfl,_,_,rfl,rfl,?_⟩
  have at':∀ {i:Nat}{v:V},(ts.map V.ref)[i]?=some v->∃ t x,v=.ref t/\ds[i]?=some x/\H t=some (.tup [.str x.1,.str x.2.1,.str x.2.2]):=λ{i v} hv=>by
   rw[xAf] at hv;cases ht:ts[i]? with
   | none=>rw[ht] at hv; cases hv
   | some t=>
    rw[ht] at hv;cases hv;have hi:i<ds.length:=by rw[<- htl]; exact (xAd.mp ht).1
    exact⟨t,ds[i],rfl,xAe hi,htt i t _ ht (xAe hi)⟩
  refine⟨_,rfl,d,rfl,⟨_,SqL.of hd⟩,λc hc=>hV (xs:=ts.map V.ref) (λi σ' H'=>∃ u,σ'=[u]/\H' c=some (.lst (((ds.take i).map (·.2.1)).map V.str))/\aP H H') ?_ ?_ ?_ ?_⟩
  ·exact⟨none,rfl,aE,smu hc⟩
  ·rintro i σ' H' _ ⟨u,rfl,h1,h2⟩;exact SqL.of (h2 _ _ hd)
  ·rintro i v σ' H' hv ⟨u,rfl,h1,h2⟩;obtain⟨t',x,rfl,hx,htx⟩:=at' hv;refine⟨_,rfl,t',_,_,.str x.2.1,rfl,rfl,SqT.of (h2 _ _ htx),rfl,_,h1,bO (by rw[xAa,xAa,xBe]; omega),_,rfl,?_,λb' o e'=>?_⟩
   ·rw[aE,xBf,hx,xAm,xAm];rfl
   ·rw[aL (aI e' hc)];exact h2 _ _ e'
  rintro σ' H1 ⟨u,rfl,h1,s1⟩;rw[xAa,htl,xAx] at h1;refine⟨_,rfl,c,m,_,_,rfl,rfl,h1,s1 _ _ hm,iL (by rw[xAa,xAa,xAa]; omega),λk hk=>?_⟩;have s2:=s1.trans (smu (o:=.lst ((ds.map (·.2.1)).map V.str++ms.map V.str)) hk);have e2:(upd H1 k (.lst ((ds.map (·.2.1)).map V.str++ms.map V.str))) k=some (.lst ((aZ ds ms).map V.str)):=by rw[aE]; unfold aZ; rw[xAm]
  show aSq _ _ _ _ (upd H1 k (.lst ((ds.map (·.2.1)).map V.str++ms.map V.str)));generalize upd H1 k (.lst ((ds.map (·.2.1)).map V.str++ms.map V.str))=H2 at s2 e2 ⊢;intro L hL;refine⟨_,rfl,d,rfl,⟨_,SqL.of (smu hL _ _ (s2 _ _ hd))⟩,?_⟩;refine dE (xs:=ts.map V.ref) (λi σ H'=>∃ (x8 x9 x10:Option V) (kvs:List (List Key×V)),σ=[some (.ref t),some (.ref r),some (.str b),some (.ref e),some (.ref d),some (.ref m),some (.ref k),some (.ref L),x8,x9,x10]/\H' L=some (.dT kvs)/\kvs.length<=i/\(∀ z y,dN kvs [Sum.inr z,Sum.inr y]=(cF (ds.take i) z y).map V.str)/\aP H2 H') ?_ ?_ ?_ ?_
  ·exact⟨none,none,none,[],rfl,aE,xAl _,λz y=>rfl,smu hL⟩
  ·rintro i σ H' _ ⟨x8,x9,x10,kvs,rfl,g1,g2,g3,g4⟩;exact SqL.of (g4 _ _ (s2 _ _ hd))
  ·rintro i v σ H' hv ⟨x8,x9,x10,kvs,rfl,g1,g2,g3,g4⟩;have hi:i<ds.length:=by rw[<- htl,<- xAa (f:=V.ref)]; exact (xAd.mp hv).1
   obtain⟨t',x,rfl,hx,htx⟩:=at' hv;refine⟨t',_,rfl,SqT.of (g4 _ _ (s2 _ _ htx)),rfl,_,_,rfl,_,_,rfl,_,_,rfl,rfl,?_⟩;refine⟨_,rfl,_,rfl,_,rfl,_,rfl,by show 2<=sizeLine; decide,λp hp=>⟨L,_,rfl,qB.t (k:=[Sum.inr x.1,Sum.inr x.2.1]) (smu hp _ _ g1) aE (bO (by omega)),?_⟩⟩;refine⟨_,_,_,_,rfl,aE,?_,λz y=>?_,λb' o e'=>?_⟩
   ·exact xAn (gG ..) (by omega)
   ·have et:ds.take (i+1)=ds.take i++[x]:=by rw[xBf,hx]; rfl
    have ap:=aDh hap (i+1);rw[et] at ap;rw[lK,et,aHi ap,g3]
    by_cases h:z=x.1/\y=x.2.1
    ·rw[xAu (aUh.mpr h),xAu h]; rfl
    ·rw[xAt (λq=>h (aUh.mp q)),xAt h]
   ·rw[aL (aI e' hL)];exact smu hp _ _ (g4 _ _ e')
  rintro σ H3 ⟨x8,x9,x10,kvs,rfl,g1,g2,g3,g4⟩;rw[xAa,htl,xAx] at g3;have s3:=s2.trans g4;have e3:=g4 _ _ e2;refine⟨_,rfl,r,rfl,⟨_,s3.seq hS⟩,?_⟩;refine dE (xs:=row.map V.str) (λi σ H'=>∃ (x9:Option V),σ=[some (.ref t),some (.ref r),some (oV (walk ds (aZ ds ms) b (row.take i))),some (.ref e),some (.ref d),some (.ref m),some (.ref k),some (.ref L),x8,x9,x10]/\aP H3 H') ?_ ?_ ?_ ?_
  ·exact⟨x9,rfl,aP.refl H3⟩
  ·rintro i σ H' _ ⟨u9,rfl,sm⟩;exact sm.seq (s3.seq hS)
  ·rintro i v σ H' hv ⟨u9,rfl,sm⟩;rw[xAf] at hv;cases hy:row[i]? with
   | none=>rw[hy] at hv; cases hv
   | some y=>
    rw[hy] at hv;cases hv
    have ew:walk ds (aZ ds ms) b (row.take (i+1))=(walk ds (aZ ds ms) b (row.take i)).bind λz=>gH ds (aZ ds ms) z y:=by
     rw[xBf,hy];exact vC ds _ y _ b
    rw[ew];cases hw:walk ds (aZ ds ms) b (row.take i) with
    | none=>exact⟨_,rfl,rfl,_,rfl,fX ⟨_,rfl,sm⟩⟩
    | some z=>
     refine⟨_,rfl,rfl,_,rfl,gX ⟨_,rfl,_,rfl,k,_,rfl,.inl (SqL.of (sm _ _ e3)),rfl,iG _,_,rfl,?_⟩⟩;show if inV (.str y) ((aZ ds ms).map V.str)=true then _ else _
     rw[iT,Option.bind_some]
     by_cases hk:y∈aZ ds ms
     ·rw[xAu (xAk hk),show gH ds (aZ ds ms) z y=cF ds z y from xAu hk]
      refine⟨_,rfl,L,rfl,.inr ⟨_,.inl (sm _ _ g1)⟩,_,rfl,_,rfl,by show 2<=sizeLine; decide,λp hp=>⟨_,gK.t (k:=[Sum.inr z,Sum.inr y]) (smu hp _ _ (sm _ _ g1)) aE,some (.str y),?_,sm.trans (smu hp)⟩⟩;rw[g3];cases cF ds z y <;> rfl
     ·rw[xAt (λz=>hk (xAg z)),show gH ds (aZ ds ms) z y=some z from xAt hk]
      exact⟨_,rfl,sm⟩
  ·rintro σ H' ⟨u9,rfl,sm⟩;rw[xAa,xAx];exact⟨_,rfl,q H' (s3.trans sm)⟩
abbrev eA (ms:List MW)(r row:List Str):List (Option Str):=List.zipWith (λm z=>walk m.ds m.kn z row) ms r
theorem vM {y:Str}{row:List Str}:∀ {ms:List MW}{r:List Str},(parts ms r y).any (λo=>o.isNone)=true->(eA ms r (y::row)).any (λo=>o.isNone)=true
 | [],_,h=>by unfold parts at h; simp at h
 | _::_,[],h=>by unfold parts at h; simp at h
 | m::ms,z::r,h=>by
  unfold parts at h;rw[xFx,xDr,Bool.or_eq_true] at h;show ((walk m.ds m.kn z (y::row)).isNone||(eA ms r (y::row)).any _)=true;rcases h with h | h
  ·have e:gH m.ds m.kn z y=none:=Option.isNone_iff_eq_none.mp h;unfold walk;rw[e];rfl
  ·rw[vM (ms:=ms) (r:=r) h,Bool.or_true]
theorem vL {y:Str}{row:List Str}:∀ {ms:List MW}{r:List Str},(parts ms r y).any (λo=>o.isNone)=false->eA ms r (y::row)=eA ms ((parts ms r y).map λo=>o.getD "") row
 | [],_,_=>rfl
 | _::_,[],_=>rfl
 | m::ms,z::r,h=>by
  unfold parts at h;rw[xFx,xDr,xGm] at h;have ih:=vL (row:=row) (ms:=ms) (r:=r) h.2;show walk m.ds m.kn z (y::row)::eA ms r (y::row)=walk m.ds m.kn ((gH m.ds m.kn z y).getD "") row::eA ms ((parts ms r y).map λo=>o.getD "") row;rw[ih];cases e:gH m.ds m.kn z y with
  | none=>rw[e] at h; exact xAz h.1 (by decide)
  | some z'=>
   show (match gH m.ds m.kn z y with | none=>none | some z'=>walk m.ds m.kn z' row)::_=_
   rw[e];rfl
theorem rM:∀ {ms:List MW}{r:List Str},ms.length=r.length->eA ms r []=r.map some
 | [],[],_=>rfl
 | [],_::_,h=>by simp at h
 | _::_,[],h=>by simp at h
 | m::ms,z::r,h=>by
  show some z::eA ms r []=some z::r.map some;rw[rM (by simpa using h)]
theorem sY {y:Str}{row:List Str}:∀ {ms:List MW}{r:List Str},¬ y∈wkn ms->eA ms r (y::row)=eA ms r row
 | [],_,_=>rfl
 | _::_,[],_=>rfl
 | m::ms,z::r,h=>by
  have hm:gH m.ds m.kn z y=some z:=xAt λq=>h (xBs.mpr ⟨m,.head _,q⟩);show (match gH m.ds m.kn z y with | none=>none | some z'=>walk m.ds m.kn z' row)::eA ms r (y::row)=walk m.ds m.kn z row::eA ms r row
  rw[hm,sY λq=>h (by
   obtain⟨m',h1,h2⟩:=xBs.mp q;exact xBs.mpr ⟨m',.tail _ h1,h2⟩)]
def iO (o:List (Option Str)):Option (List Str):=if o.any (λo=>o.isNone)=true then none else some (o.map λo=>o.getD "")
section
variable {ms:List MW}{S:List Str}
theorem aGt (h:(bU ms S).length<=60){r:List Str}(hr:r∈bU ms S):decide (rOf ms S r∈hJ ms S)=qE ms r:=by
 rw[xDc,xDx];unfold hJ;constructor
 ·intro hm;obtain⟨r',hr',e⟩:=xAp.mp hm;obtain⟨h1,h2⟩:=xBx.mp hr';rw[<- nI h h1 hr e];exact h2
 ·exact λhw=>xAp.mpr ⟨r,xBx.mpr ⟨hr,hw⟩,rfl⟩
theorem sW (h:(bU ms S).length<=60){kn:List Str}(hkn:∀ z,z∈kn↔z∈wkn ms):∀ {row r:List Str},r∈bU ms S->ms.length=r.length->(∀ y∈row,y∈S)->walk (dR ms S) kn (rOf ms S r) row=(iO (eA ms r row)).map (rOf ms S)/\∀ r',iO (eA ms r row)=some r'->r'∈bU ms S
 | [],r,hr,hl,_=>by
  have e:iO (eA ms r [])=some r:=by
   unfold iO;rw[rM hl,xAt (by simp),xCy];exact congrArg some (List.map_id r)
  rw[e];exact⟨rfl,λr' z=>by cases z; exact hr⟩
 | y::row,r,hr,hl,hS=>by
  have hy:=hS y (xBk ..);have hS':∀ y∈row,y∈S:=λz hz=>hS z (xBg _ hz);unfold walk gH
  by_cases hk:y∈wkn ms
  ·have ew:wto ms r y=aAw ms r y:=xAu hk;rw[xAu ((hkn y).mpr hk),zQ h hr hy]
   by_cases hp:(parts ms r y).any (λo=>o.isNone)=true
   ·rw[ew,show aAw ms r y=none from xAu hp,show iO (eA ms r (y::row))=none from xAu (vM hp)]
    exact⟨rfl,λr' z=>nomatch z⟩
   ·have e2:aAw ms r y=some ((parts ms r y).map λo=>o.getD ""):=xAt hp;rw[ew,e2,vL (xCb.mpr hp)];exact sW h hkn (pV h hr hy (ew.trans e2)) (by rw[xAa]; unfold parts; rw[xFf,<- hl,Nat.min_self]) hS'
  ·rw[xAt λq=>hk ((hkn y).mp q),sY hk];exact sW h hkn hr hl hS'
end
def acc (m:MW)(row:List Str):Option Bool:=(walk m.ds m.kn m.b row).map λz=>decide (z∈m.es)
def aAq:Option Bool->Option Bool->Option Bool
 | some a,some b=>some (a&&b)
 | _,_=>none
abbrev one (ms:List MW)(S kn:List Str):MW:=⟨rN 0,hJ ms S,kn,dR ms S⟩
theorem aFe {ms:List MW}{S kn row:List Str}(h:(bU ms S).length<=60)(hkn:∀ z,z∈kn↔z∈wkn ms)(hS:∀ y∈row,y∈S):acc (one ms S kn) row=(iO (eA ms (ms.map (·.b)) row)).map (qE ms):=by
 obtain⟨h1,h2⟩:=sW h hkn (row:=row) mP (by rw[xAa]) hS;unfold acc;show (walk (dR ms S) kn (rN 0) row).map _=_;rw[<- nJ h,h1];cases e:iO (eA ms (ms.map (·.b)) row) with
 | none=>rfl
 | some r=>exact congrArg some (aGt h (h2 r e))
theorem aUv {m:MW}{S kn row:List Str}(h:(bU [m] S).length<=60)(hkn:∀ z,z∈kn↔z∈wkn [m])(hS:∀ y∈row,y∈S):acc (one [m] S kn) row=acc m row:=by
 rw[aFe h hkn hS];unfold acc;show (iO [walk m.ds m.kn m.b row]).map _=_;cases walk m.ds m.kn m.b row with
 | none=>rfl
 | some z=>
  show some ([decide (z∈m.es)].all id)=some (decide (z∈m.es))
  simp
theorem aQd {m m':MW}{S kn row:List Str}(h:(bU [m,m'] S).length<=60)(hkn:∀ z,z∈kn↔z∈wkn [m,m'])(hS:∀ y∈row,y∈S):acc (one [m,m'] S kn) row=aAq (acc m row) (acc m' row):=by
 rw[aFe h hkn hS];unfold acc;show (iO [walk m.ds m.kn m.b row,walk m'.ds m'.kn m'.b row]).map _=_;cases walk m.ds m.kn m.b row with
 | none=>rfl
 | some z=>
  cases walk m'.ds m'.kn m'.b row with
  | none=>rfl
  | some y=>
   show some ([decide (z∈m.es),decide (y∈m'.es)].all id)=some (decide (z∈m.es)&&decide (y∈m'.es))
   simp
theorem aHu (a b:Option Bool):aAq a b=aAq b a:=by
 cases a <;> cases b <;> simp[aAq,Bool.and_comm]
theorem pN {α:Type} [DecidableEq α]:∀ (l m:List α),l.Nodup->(∀ z∈l,z∈m)->l.length<=m.length
 | [],m,_,_=>xBr _
 | x::r,m,hd,hs=>by
  have hn:=xDb.mp hd;have h1:=pN r (m.erase x) hn.2 (λz hz=>(List.mem_erase_of_ne (λ(e:z=x)=>hn.1 (e▸hz))).mpr (hs z (xBg _ hz)));have hx:=hs x (xBk ..);have h2:=xIt hx;rw[xFr hx] at h1;simp only[List.length_cons];omega
theorem aUt {m:MW}{S:List Str}(h:m.rs.all aW=true):∀ r∈bU [m] S,∃ z∈m.rs,r=[z]:=λr hr=>by
 have R:=uL (λx hx=>by rw[xAi.mp hx]; exact h) r hr;have hl:1=r.length:=R.len
 match r,hl with
 | [z],_=>exact⟨z,(R.mem 0 m z rfl rfl).2,rfl⟩
theorem aHm {m:MW}{S:List Str}(h:m.rs.all aW=true):(bU [m] S).length<=(unl m.rs []).length:=by
 have:=pN _ ((unl m.rs []).map λz=>[z]) (eS (ms:=[m]) (S:=S)) λr hr=>by
  obtain⟨z,hz,rfl⟩:=aUt h r hr;exact xAp.mpr ⟨z,kP.mpr hz,rfl⟩
 rwa [xAa] at this
theorem aQb {m m':MW}{S:List Str}(h:m.rs.all aW=true)(h':m'.rs.all aW=true){a b:Nat}(ha:(unl m.rs []).length<=a)(hb:(unl m'.rs []).length<=b):(bU [m,m'] S).length<=b*a:=by
 have:=pN _ ((unl m.rs []).flatMap λz=>(unl m'.rs []).map λy=>[z,y]) (eS (ms:=[m,m']) (S:=S)) λr hr=>by
  have R:=uL (λx hx=>by rcases xAo.mp hx with rfl | hx; exact h; rw[xAi.mp hx]; exact h') r hr;have hl:2=r.length:=R.len
  match r,hl with
  | [z,y],_=>exact xBs.mpr ⟨z,kP.mpr (R.mem 0 m z rfl rfl).2,xAp.mpr ⟨y,kP.mpr (R.mem 1 m' y rfl rfl).2,rfl⟩⟩
 have fl:=kG (k:=b) (l:=unl m.rs []) (f:=λz=>(unl m'.rs []).map λy=>[z,y]) λz _=>by rw[xAa]; exact hb
 exact xAn this (xAn fl (xGq _ ha))
theorem aFu {ms:List MW}{S kn:List Str}(h:(bU ms S).length<=60):(unl (one ms S kn).rs []).length<=(bU ms S).length:=by
 have:=eG (rs:=(one ms S kn).rs) (N:=(bU ms S).map (rOf ms S)) λz hz=>(lB h).mp hz
 rwa [xAa] at this
abbrev sg (z:Str):List Str:=[z]
theorem xM {rs:List Str}{u:Str}:[u]∈rs.map sg↔u∈rs:=by
 rw[xAp];exact⟨λ⟨a,h,e⟩=>(xIk e).1▸h,λh=>⟨u,h,rfl⟩⟩
theorem aDp {b z y:Str}{es ms:List Str}{ds:List Dr}:wto [⟨b,es,aZ ds ms,ds⟩] [z] y=(cF ds z y).map sg:=by
 unfold wto
 by_cases h:y∈wkn [⟨b,es,aZ ds ms,ds⟩]
 ·rw[xAu h];have hk:y∈aZ ds ms:=by simpa [wkn] using h
  show (if [gH ds (aZ ds ms) z y].any (λo=>o.isNone)=true then none else some ([gH ds (aZ ds ms) z y].map λo=>o.getD ""))=_
  rw[show gH ds (aZ ds ms) z y=cF ds z y from xAu hk]
  cases cF ds z y <;> rfl
 ·rw[xAt h];cases e:cF ds z y with
  | none=>rfl
  | some u=>
   unfold cF at e;obtain⟨x,hx,rfl⟩:=xDv.mp e;have hp:=xHt hx;rw[xBh] at hp;refine xAz (xBs.mpr ⟨_,.head _,?_⟩) h;show y∈ds.map (·.2.1)++ms;exact xDj _ (xAp.mpr ⟨x,xCt hx,xAg hp.2⟩)
theorem aLs {b z:Str}{es ms S:List Str}{ds:List Dr}:S.filterMap (wto [⟨b,es,aZ ds ms,ds⟩] [z])=(S.filterMap (cF ds z)).map sg:=by
 rw[List.map_filterMap];exact congrArg (λf=>S.filterMap f) (funext λy=>aDp)
theorem rX {z y:Str}:∀ {ds:List Dr},Ky.Apart ds->(ds.filter λx=>decide (x.1=z)&&decide (x.2.1=y)).map (·.2.2)=(cF ds z y).toList
 | [],_=>rfl
 | x::ds,ap=>by
  have ap':=List.pairwise_cons.mp (show ((x::ds).map λx=>(x.1,x.2.1)).Pairwise (·≠·) from ap)
  have ih:=rX (z:=z) (y:=y) (ds:=ds) ap'.2;unfold cF at ih ⊢;rw[xCw,xCm];cases h:decide (x.1=z)&&decide (x.2.1=y) with
  | false=>exact ih
  | true=>
   rw[xBh] at h
   have e:ds.filter (λx=>decide (x.1=z)&&decide (x.2.1=y))=[]:=List.filter_eq_nil_iff.mpr λu hu q=>by
    rw[xBh] at q;exact ap'.1 (u.1,u.2.1) (xAp.mpr ⟨u,hu,rfl⟩) (by show (x.1,x.2.1)=_; rw[xAg h.1,xAg h.2,xAg q.1,xAg q.2])
   rw[xAu rfl,e];rfl
theorem aJe {ms:List MW}{S:List Str}{i:Nat}{r:List Str}(h:(bU ms S)[i]?=some r):rOf ms S r=rN i:=by
 obtain⟨hi,e⟩:=xAd.mp h;unfold rOf;rw[<- e,xFu eS]
theorem aXf {ms:List MW}{S:List Str}:(bU ms S).map (rOf ms S)=(List.range (bU ms S).length).map rN:=by
 refine xHg λi=>?_;rw[xAf,xAf]
 by_cases hi:i<(bU ms S).length
 ·rw[xAe hi,xEk hi];exact congrArg some (aJe (xAe hi))
 ·rw[xGf (by omega),xGf (by rw[xBu]; omega)];rfl
theorem aRc:∀ k:Nat,k<64->("r" : Str).length+(Str.ofString (toString (k:Int))).length<=100:=by decide +kernel
theorem aUu {l:List Str}(nd:l.Nodup){j:Nat}{z:Str}(h:l[j]?=some z):∀ m,m<j->l[m]?≠some z:=λm hm e=>by
 have:=(xDa (i:=m) (j:=j) (xAd.mp e).1 nd).mp (by rw[e,h])
 omega
inductive aIq (K:xAb)(C CM:Addr)(vs:List V)(H:Hp)(Q:VK)(E:XK):Prop
 | mk (X t n e d m x:Addr)(b:Str)(es ms ss S kn:List Str)(ds:List Dr)(wk:List (Key×V))(tm:MW)(htm:tm=⟨b,es,aZ ds ms,ds⟩)(h0_:vs=[.ref X,.ref t,.ref n])(h1_:MM CM H X x (rN 0) (hJ [tm] S) kn (dR [tm] S))
  (h2_:H t=some (.tup [.str b,.ref e,.ref d,.ref m]))(h3_:H e=some (.lst (es.map V.str)))(h4_:cQ H d ds)(h5_:H n=some (.lst (ss.map V.str)))(h6_:ss.length<=12)(h7_:S.Perm ss)(h8_:xBp S=true)(h9_:S.Nodup)
  (h10_:Ky.Apart ds)(h11_:ds.length<=60)(h12_:(bU [tm] S).length<=60)(h13_:∀ x∈ds,x.2.1∈S)(h14_:WAt C H x wk)(h15_:∀ z∈S,cY wk (.str z)=true)(h16_:∀ z∈ss,z.length<=1000)(h17_:∀ H',aP H H'->Q (.bl true) H')
abbrev NNA:List Str:=["_law_machine","_law_told","_law_names","_law_begin","_law_ends","_law_doors","_law_more","_law_rooms","_law_at","_law_deed","_law_there","_law_named","_law_room","_law_here"]
theorem nU:aR NNA ["_law_machine","_law_told","_law_names"] (aB gS):=xfs
abbrev aUa:List Str:=["_law_door","_law_rooms","_law_at","_law_deed"]
abbrev aTz:List Str:=["_law_room","_law_rooms"]
abbrev aTy:List Str:=["_law_k"]
abbrev aTx:List Str:=["_law_k","_law_named","_law_rooms","_law_ends"]
theorem aNz {f fB fR fE fT C CM cR cD:Addr}{fd fdB fdR fdE fdT:FuncData}(F:Fun K "_law_named_anew" "_law_named_anew" gS f fd)(T:Txt K mg)(MC:kJ K CM)
  (GB:aQ P w K mg base CX0 1 fB fdB ["self"] (tH CM))(bB:aX K fdB ["self"] [])(mB:eE K CM "begin" fB)
  (GR:aQ P w K mg base CX0 1 fR fdR ["self"] (nG CM aLt))(bR:aX K fdR ["self"] [])(mR:eE K CM "rooms" fR)
  (GE:aQ P w K mg base CX0 1 fE fdE ["self"] (nG CM aPy))(bE:aX K fdE ["self"] [])(mE:eE K CM "ends" fE)
  (GT:aQ P w K mg base (CXE P w) 4 fT fdT ["self","room","deed"] (aIn C CM cR cD))(bT:aX K fdT ["self","room","deed"] [])(mT:eE K CM "to" fT) :
  aQ P w K mg base CX0 5 f fd ["_law_machine","_law_told","_law_names"] (aIq K C CM):=by
 refine F.ok nU (λvs H Q E h=>?_) (λcdv A outer s H vs Q E hr h=>?_)
 ·obtain⟨X,t,n,e,d,m,x,b,es,ms,ss,S,kn,ds,wk,tm,_,rfl,_⟩:=h;rfl
 ·obtain⟨X,t,n,e,d,m,x,b,es,ms,ss,S,kn,ds,wk,tm,htm,rfl,M,ht,hE,hD,hn,h12,pm,so,nd,ap,hdl,hle,hdS,hW,hg,hsh,q⟩:=h;have hr1:cM 1 _:=hr.mono (by decide);have hu:=jH hr;have hu0:=xHd hu
  refine⟨_,aJ (xE (pv 1) (eO rfl (aY (aS (i:=3) nU.nd rfl (xAy rfl)) (aY (aS (i:=4) nU.nd rfl (xEt rfl)) (aY (aS (i:=5) nU.nd rfl (xAy rfl)) (aY (aS (i:=6) nU.nd rfl (xAy rfl)) dO))))))
   (aJ (bJ (i:=7) nU.nd rfl (xEt rfl) (cA (pac (pv 3) aF)))
   (aJ (bJ (i:=8) nU.nd rfl (xEt rfl) aN)
   (aJ (zA PassesOwn.never (aV zM (pv 8) (cB cL (by rfl) T.len Bo.len (pac (pv 7) aF)) (bC _))
    (aJ (dZ PassesOwn.never rfl (cU (cB iU (by rfl) T.sorted Bo.sorted (pac (pv 2) aF))) (aS (i:=9) nU.nd rfl (xEt rfl))
     (aJ (gE (i:=10) (N':=aUa) (nown:=1) (js:=[7,8,9]) rfl nU.nd rfl rfl rfl
       xbs (cJ (aB gS) NNA rfl rfl (by decide +kernel))
       ⟨λ_ _ _ _=>aS (i:=0) (show List.Nodup aUa by decide +kernel) rfl (xAy rfl) (.inr rfl),
        λ_ _ _ _=>iP (qM (aV eC (cG (show IxR _ (aBy K) from cV) (pv 0) aN (λ_ _=>rfl)) (cG (show IxR _ (sC K) from dG) (pv 1) (pv 2) (λ_ _=>rfl)) (bC _)) (pH (aV eC (cG (show IxR _ (aBy K) from cV) (pv 0) aN (λ_ _=>rfl)) (pv 3) (bC _)))).pt,
        λ_ _ _ _=>cG (show IxR _ (aBy K) from cV) (pv 0) aN (λ_ _=>rfl)⟩ (cU (pv 5)))
     (aM (bJ (i:=7) nU.nd rfl (xEt rfl) (bV tX (pv 7) (eN (N':=aTz) (nown:=1) (js:=[7]) rfl
       xbs (cJ (aB gS) NNA rfl rfl (by decide +kernel))
       ⟨λ_ _ _ _=>aS (i:=0) (show List.Nodup aTz by decide +kernel) rfl (xAy rfl) (.inr rfl),λ_ _ _ _=>iP (aV (show OpR _ _ (rIn K true) from kZ) (pv 0) (pv 1) (by with_unfolding_all rfl)),λ_ _ _ _=>pv 0⟩ (cU (pv 10))))))))
    (aM (bJ (i:=8) nU.nd rfl (xEt rfl) (bV eK (pv 8) aN)))))
   (aJ (bJ (i:=11) nU.nd rfl (xEt rfl) (eN (N':=aTy) (nown:=1) (js:=[]) rfl
     xbs (cJ (aB gS) NNA rfl rfl (by decide +kernel))
     ⟨λ_ _ _ _=>aS (i:=0) (show List.Nodup aTy by decide +kernel) rfl (xAy rfl) (.inr rfl),λ_ _ _ _=>eV,λ_ _ _ _=>bV tY aO (iE xX (by rfl) T.str Bo.str (pac (pv 0) aF))⟩
     (gW rfl T.range (pac (cB cL (by rfl) T.len Bo.len (pac (pv 7) aF)) aF))))
   (aJ (cK (nZ (aV rQ (dM (pv 0) MC.cl mB GB hr1 bB .nil bZ) aO (bC _)) (lQ (aV (aNq hu0) (dM (pv 0) MC.cl mR GR hr1 bR .nil bZ) (cB iU (by rfl) T.sorted Bo.sorted (pac (pv 11) aF)) (bC _)))).pt (aM (aU lX)) bS)
   (aJ (dZ PassesOwn.never rfl (cU (pv 5)) (eO rfl (aY (aS (i:=12) nU.nd rfl (xAy rfl)) (aY (aS (i:=9) nU.nd rfl (xEt rfl)) (aY (aS (i:=10) nU.nd rfl (xAy rfl)) dO))))
    (aJ (cK (aV (show OpR _ _ (rIn K true) from kZ) (pv 12) (pv 7) (by with_unfolding_all rfl)) (aM zB) bS)
    (aJ (bJ (i:=13) nU.nd rfl (xAy rfl) (cG (show IxR _ (sC K) from dG) (pv 11) (lW xBq xIf xIe vY (pv 7) (pac (pv 12) aF)) (λ_ _=>rfl)))
    (aM (cK (aV rQ (cS (pv 0) MC.cl mT GT hr bT .nil fV (pac (pv 13) (pac (pv 9) aF))) (cG (show IxR _ (sC K) from dG) (pv 11) (lW xBq xIf xIe vY (pv 7) (pac (pv 10) aF)) (λ_ _=>rfl)) (bC _)) (aM (aU lX)) bS)))))
   (aM (aU (fS (aNr hu0) (dM (pv 0) MC.cl mE GE hr1 bE .nil bZ) (cB iU (by rfl) T.sorted Bo.sorted (pac (eN (N':=aTx) (nown:=1) (js:=[11,7,4]) rfl
     xbs (cJ (aB gS) NNA rfl rfl (by decide +kernel))
     ⟨λ_ _ _ _=>aS (i:=0) (show List.Nodup aTx by decide +kernel) rfl (xAy rfl) (.inr rfl),λ_ _ _ _=>iP (aV (show OpR _ _ (rIn K false) from kE) (cG (show IxR _ (sC K) from dG) (pv 2) (pv 0) (λ_ _=>rfl)) (pv 3) (by with_unfolding_all rfl)),λ_ _ _ _=>cG (show IxR _ (sC K) from dG) (pv 1) (pv 0) (λ_ _=>rfl)⟩
     (gW rfl T.range (pac (cB cL (by rfl) T.len Bo.len (pac (pv 7) aF)) aF))) aF)) (bC _)))))))))),?_⟩
  obtain⟨ts,hd,htl,htt⟩:=hD.ex
  have at':∀ {i:Nat}{v:V},(ts.map V.ref)[i]?=some v->∃ t x,v=.ref t/\ds[i]?=some x/\H t=some (.tup [.str x.1,.str x.2.1,.str x.2.2]):=λ{i v} hv=>by
   rw[xAf] at hv;cases ht:ts[i]? with
   | none=>rw[ht] at hv; cases hv
   | some t=>
    rw[ht] at hv;cases hv;have hi:i<ds.length:=by rw[<- htl]; exact (xAd.mp ht).1
    exact⟨t,ds[i],rfl,xAe hi,htt i t _ ht (xAe hi)⟩
  have fo:∀ z,S.filterMap (wto [tm] [z])=(S.filterMap (cF ds z)).map sg:=λz=>by rw[htm]; exact aLs
  have wo:∀ z y,wto [tm] [z] y=(cF ds z y).map sg:=λz y=>by rw[htm]; exact aDp
  have we:∀ z,qE [tm] [z]=decide (z∈es):=λz=>by
   rw[htm];show (decide (z∈es)&&true)=_;rw[xIn]
  have cb:bU [tm] S=gM (λr=>S.filterMap (wto [tm] r)) (61-0) ([b].map sg) 0:=by rw[htm]; rfl
  refine⟨_,rfl,t,_,rfl,SqT.of ht,rfl,_,_,rfl,_,_,rfl,_,_,rfl,_,_,rfl,rfl,?_⟩;refine⟨_,rfl,by show 1<=sizeLine; decide,λR0 hR0=>?_⟩
  refine⟨λmm σ H'=>∃ (i:Nat) (R:Addr) (rs:List Str) (x9 x10:Option V),mm=61-i/\σ=[some (.ref X),some (.ref t),some (.ref n),some (.str b),some (.ref e),some (.ref d),some (.ref m),some (.ref R),some (.int i),x9,x10,none,none,none]/\H' R=some (.lst (rs.map V.str))/\aP H H'/\(rs.map sg).Nodup/\bU [tm] S=gM (λr=>S.filterMap (wto [tm] r)) (61-i) (rs.map sg) i,
   ⟨61,0,R0,[b],none,none,rfl,rfl,aE,smu hR0,aRr _,cb⟩,?_⟩
  rintro mm σ H1 ⟨i,R,rs,x9,x10,rfl,rfl,e1,s1,ndr,hc⟩
  have h60:rs.length<=60:=by
   have:=pN (rs.map sg) (bU [tm] S) ndr λr hr=>by rw[hc]; exact pU hr
   rw[xAa] at this;omega
  refine⟨_,rfl,_,rfl,R,_,rfl,.inl (SqL.of e1),_,_,rfl,rfl,_,rfl,eI (λhlt=>?_) (λhge=>?_)⟩
  ·have hil:i<rs.length:=by have:=xAg hlt; rw[xAa] at this; omega
   have hz:=xAe hil;generalize rs[i]=z at hz
   have hc':bU [tm] S=gM (λr=>S.filterMap (wto [tm] r)) (61-(i+1)) (iI (rs.map sg) ((S.filterMap (cF ds z)).map sg)) (i+1):=by
    rw[<- fo];exact hc.trans (aEz (r:=[z]) (by rw[xAf,hz]; rfl) (by rw[xAa]; exact h60))
   refine⟨_,λ_ _ h=>h,?_⟩;refine⟨_,rfl,n,ss,rfl,SqL.of (s1 _ _ hn),by omega,λp S' hp pm' so'=>?_⟩;obtain rfl:S'=S:=(aMz so' (pm'.trans pm.symm) nd).one (aMz so (.refl _) nd) λz=>Iff.rfl;have s2:=s1.trans (smu (o:=.lst (S'.map V.str)) hp);have e2:(upd H1 p (.lst (S'.map V.str))) p=some (.lst (S'.map V.str)):=aE;have e2R:=smu (o:=.lst (S'.map V.str)) hp _ _ e1;generalize upd H1 p (.lst (S'.map V.str))=H2 at s2 e2 e2R ⊢;refine⟨p,rfl,⟨_,SqL.of e2⟩,?_⟩;refine dE (xs:=S'.map V.str) (λj σ H3=>∃ (R2:Addr) (rs2:List Str) (y9 y10:Option V),σ=[some (.ref X),some (.ref t),some (.ref n),some (.str b),some (.ref e),some (.ref d),some (.ref m),some (.ref R2),some (.int i),y9,y10,none,none,none]/\H3 R2=some (.lst (rs2.map V.str))/\rs2.map sg=iI (rs.map sg) (((S'.take j).filterMap (cF ds z)).map sg)/\aP H2 H3) ?_ ?_ ?_ ?_
   ·exact⟨R,rs,_,_,rfl,e2R,rfl,aP.refl H2⟩
   ·rintro j σ H3 _ ⟨R2,rs2,y9,y10,rfl,a1,a2,a3⟩;exact SqL.of (a3 _ _ e2)
   ·rintro j v σ H3 hv ⟨R2,rs2,y9,y10,rfl,a1,a2,a3⟩;rw[xAf] at hv;cases hy:S'[j]? with
    | none=>rw[hy] at hv; cases hv
    | some y=>
     rw[hy] at hv;cases hv;have s3:=s2.trans a3
     have hz2:rs2[i]?=some z:=by
      have h:(rs2.map sg)[i]?=(iI (rs.map sg) (((S'.take j).filterMap (cF ds z)).map sg))[i]?:=by rw[a2]
      rw[qA (by rw[xAa]; exact hil),xAf,xAf,hz] at h;cases hq:rs2[i]? with
      | none=>rw[hq] at h; cases h
      | some u=>rw[hq] at h; cases h; rfl
     have l2:rs2.length<=72:=by
      have h:=congrArg List.length a2;rw[xAa] at h
      have:=uQ (rs:=rs.map sg) (fs:=((S'.take j).filterMap (cF ds z)).map sg)
      rw[xAa,xAa] at this
      have:=xDo (cF ds z) (S'.take j)
      rw[xBe] at this
      have:=pm.length_eq
      omega
     refine⟨_,rfl,d,rfl,⟨_,SqL.of (s3 _ _ hd)⟩,λc hcn=>hV (xs:=ts.map V.ref) (λk σ' H4=>∃ u,σ'=[u,some (.ref R2),some (.int i),some (.str y)]/\H4 c=some (.lst ((((ds.take k).filter λx=>decide (x.1=z)&&decide (x.2.1=y)).map (·.2.2)).map V.str))/\aP H3 H4) ?_ ?_ ?_ ?_⟩
     ·exact⟨none,rfl,aE,smu hcn⟩
     ·rintro k σ' H4 _ ⟨u,rfl,c1,c2⟩;exact SqL.of (c2 _ _ (s3 _ _ hd))
     ·rintro k v σ' H4 hv ⟨u,rfl,c1,c2⟩;obtain⟨t',x',rfl,hx,htx⟩:=at' hv;have s4:=s3.trans c2;have htx':=s4 _ _ htx
      have ef:((ds.take (k+1)).filter λx=>decide (x.1=z)&&decide (x.2.1=y))=((ds.take k).filter λx=>decide (x.1=z)&&decide (x.2.1=y))++(if (decide (x'.1=z)&&decide (x'.2.1=y))=true then [x'] else []):=by
       rw[xBf,hx,xDz];congr 1;show List.filter _ [x']=_;rw[xCw,xGi]
      have no:¬ (x'.1=z/\x'.2.1=y)->∃ u',([some (.ref t'),some (.ref R2),some (.int i),some (.str y)]:St)=[u',some (.ref R2),some (.int i),some (.str y)]/\H4 c=some (.lst ((((ds.take (k+1)).filter λx=>decide (x.1=z)&&decide (x.2.1=y)).map (·.2.2)).map V.str))/\aP H3 H4:=λh=>⟨_,rfl,by
       rw[ef,xAt (λq=>h (by rw[xBh] at q; exact⟨xAg q.1,xAg q.2⟩)),xBo];exact c1,c2⟩
      refine⟨_,rfl,t',_,_,.str x'.1,rfl,rfl,SqT.of htx',rfl,_,rfl,_,rfl,R2,_,_,.str z,rfl,rfl,SqL.of (c2 _ _ a1),iK (by rw[xAf,hz2]; rfl),rfl,_,rfl,eI (λq1=>?_) λq1=>no λq=>q1 (xAk (congrArg V.str q.1))⟩;refine⟨_,rfl,t',_,_,.str x'.2.1,rfl,rfl,SqT.of htx',rfl,_,rfl,rfl,_,rfl,eI (λq2=>?_) λq2=>no λq=>q2 (xAk (congrArg V.str q.2))⟩;have e1:x'.1=z:=V.str.inj (xAg q1);have e2:x'.2.1=y:=V.str.inj (xAg q2);refine⟨_,rfl,t',_,_,.str x'.2.2,rfl,rfl,SqT.of htx',rfl,_,c1,bO ?_,_,rfl,?_,λb' o e'=>?_⟩
      ·rw[xAa,xAa];exact xAn (xCe ..) (by rw[xBe]; omega)
      ·rw[aE,ef,xAu (by rw[e1,e2]; simp),xAm,xAm];rfl
      ·rw[aL (aI e' hcn)];exact c2 _ _ e'
     rintro σ' H4 ⟨u,rfl,c1,c2⟩;rw[xAa,htl,xAx,rX ap] at c1;have hl1:(cF ds z y).toList.length<=1:=by cases cF ds z y <;> simp
     refine⟨_,rfl,_,rfl,c,rfl,⟨_,SqL.of c1⟩,λg hg'=>hV (xs:=(cF ds z y).toList.map V.str) (λk σ' H5=>∃ u,σ'=[u,some (.ref R2)]/\H5 g=some (.lst ((((cF ds z y).toList.take k).filter λu=>!decide (u∈rs2)).map V.str))/\aP H4 H5) ?_ ?_ ?_ ?_⟩
     ·exact⟨none,rfl,aE,smu hg'⟩
     ·rintro k σ' H5 _ ⟨u,rfl,d1,d2⟩;exact SqL.of (d2 _ _ c1)
     ·rintro k v σ' H5 hv ⟨u,rfl,d1,d2⟩;rw[xAf] at hv;cases hu':(cF ds z y).toList[k]? with
      | none=>rw[hu'] at hv; cases hv
      | some u'=>
       rw[hu'] at hv;cases hv;refine⟨_,rfl,_,rfl,R2,_,rfl,.inl (SqL.of (d2 _ _ (c2 _ _ a1))),rfl,iG _,_,rfl,?_⟩;show if (!inV (.str u') (rs2.map V.str))=true then _ else _
       rw[iT];cases hm:!decide (u'∈rs2) with
       | true=>
        refine gX ⟨_,rfl,_,d1,bO ?_,_,rfl,?_,λb' o e'=>?_⟩
        ·rw[xAa];exact xAn (xCe ..) (by rw[xBe]; omega)
        ·rw[aE,xBf,hu',xDz,xAm];show _=some (HO.lst (_++(List.filter _ [u']).map V.str));rw[xCw,hm];rfl
        ·rw[aL (aI e' hg')];exact d2 _ _ e'
       | false=>
        refine fX ⟨_,rfl,?_,d2⟩;rw[xBf,hu',xDz];show _=some (HO.lst ((_++List.filter _ [u']).map V.str));rw[xCw,hm]
        simpa using d1
     rintro σ' H5 ⟨u,rfl,d1,d2⟩;rw[xAa,xAx] at d1;have s5:=c2.trans d2;refine⟨R2,g,_,_,rfl,rfl,s5 _ _ a1,d1,iL ?_,λp2 hp2=>⟨p2,_,_,_,rfl,by rw[aE,<- xAm],?_,(a3.trans s5).trans (smu hp2)⟩⟩
     ·rw[xAa,xAa]
      have:=xCe (λu=>!decide (u∈rs2)) (cF ds z y).toList
      omega
     ·rw[xBf,hy,xDf,xAm,xAm];show _=iI _ (_++(List.filterMap (cF ds z) [y]).map sg);rw[xEl];cases hd':cF ds z y with
      | none=>simpa using a2
      | some u'=>
       show _=iI _ (_++[[u']]);rw[rJ,<- a2]
       by_cases hm:u'∈rs2
       ·rw[xAu (xM.mpr hm)];simp[hm]
       ·rw[xAt (λq=>hm (xM.mp q))];simp[hm]
   ·rintro σ H3 ⟨R2,rs2,y9,y10,rfl,a1,a2,a3⟩;rw[xAa,xAx] at a2;rw[<- a2] at hc';refine⟨_,rfl,_,_,rfl,rfl,_,(by omega:61-(i+1)<61-i),i+1,R2,rs2,_,_,rfl,rfl,a1,s2.trans a3,?_,hc'⟩;rw[a2];exact oR ndr
  ·have hin:¬ i<rs.length:=λz=>hge (xAk (by rw[xAa]; omega));rw[rH (λz=>hin (by rw[xAa] at z; exact z.1))] at hc;clear hge hin;have ndR:rs.Nodup:=(xCk.mp ndr).imp λh e=>h (by rw[e]);have cl:(bU [tm] S).length=rs.length:=by rw[hc,xAa]
   have eix:∀ {j:Nat}{z:Str},rs[j]?=some z->rOf [tm] S [z]=rN j:=λ{j z} h=>aJe (by rw[hc,xAf,h]; rfl);have nms:(bU [tm] S).map (rOf [tm] S)=(List.range rs.length).map rN:=by rw[aXf,cl]
   have oe:hJ [tm] S=(rs.filter λz=>decide (z∈es)).map λz=>rOf [tm] S [z]:=by
    unfold hJ;rw[hc,List.filter_map,xCy];exact congrArg (λl=>List.map _ l) (List.filter_congr λz _=>we z)
   have hcm:=hc;clear cb ndr hc;refine⟨_,rfl,R,_,rfl,.inl (SqL.of e1),(rs.length:Int),(by rw[xAa]),by omega,by omega,λD hD'=>iH (n:=rs.length) (lo:=0) (λk σ' H'=>∃ v,σ'=[v]/\H' D=some (.lst (((List.range k).map rN).map V.str))/\aP H1 H') ?_ ?_ ?_⟩
   ·exact⟨none,rfl,aE,smu hD'⟩
   ·rintro k σ' H' hk ⟨v,rfl,d1,d2⟩;have hln:=aRc k (by omega);refine⟨_,rfl,(k:Int),(by show [V.int (0+(k:Int))]=[V.int k]; rw[xEw]),qW k (by omega),_,_,rfl,rfl,iL (xAn hln (by decide)),_,d1,bO (by rw[xAa,xAa,xBu]; omega),_,rfl,?_,λb' o e'=>?_⟩
    ·rw[aE,xCu,xAm,xAm];rfl
    ·rw[aL (aI e' hD')];exact d2 _ _ e'
   rintro σ' H2 ⟨v,rfl,eD,d2⟩;have s2:=s1.trans d2;have e2:=d2 _ _ e1;have M2:=M.same s2;clear d2 e1 hD';obtain⟨dx,_,_,_,_,_,M0⟩:=id M2;refine⟨_,rfl,X,dx,_,rfl,M0.ins,cZ _ _ _ _ _ _ (by decide),X,x,_,_,kn,_,rfl,M2,rfl,_,rfl,eI (λy=>xAz y (by decide +kernel)) λ_=>?_⟩;refine⟨_,rfl,X,dx,_,rfl,M0.ins,cZ _ _ _ _ _ _ (by decide),X,x,_,_,kn,_,rfl,M2,xCc (eG λz hz=>(lB hle).mp hz) (by rw[xAa]; omega),λl1 t1 H3 s3 n3 e3 so3 pm3=>?_⟩;refine⟨_,rfl,D,_,rfl,SqL.of (s3 _ _ eD),by rw[xAa,xBu]; omega,λp1 t2 hp1 pm1 so1=>?_⟩;have et:t1=t2:=(aTa so3 pm3).one (aMz so1 pm1 (by rw[<- nms]; exact aBx hle)) λz=>by rw[<- nms]; exact lB hle
   subst et;refine⟨l1,p1,t1,t1,rfl,rfl,SqL.of (smu hp1 _ _ e3),SqL.of aE,_,rfl,eI (λy=>xAz y (by simp)) λ_=>?_⟩;have s4:=s3.trans (smu (o:=.lst (t1.map V.str)) hp1);generalize upd H3 p1 (.lst (t1.map V.str))=H4 at s4 ⊢;clear hp1 e3 n3 s3 so3 pm3 so1 pm1;refine⟨_,rfl,d,rfl,⟨_,SqL.of (s4 _ _ (s2 _ _ hd))⟩,?_⟩;refine dE (xs:=ts.map V.ref) (λk σ H'=>∃ y9 y10 y12 y13:Option V,σ=[some (.ref X),some (.ref t),some (.ref n),some (.str b),some (.ref e),some (.ref d),some (.ref m),some (.ref R),some (.int i),y9,y10,some (.ref D),y12,y13]/\aP H2 H') ?_ ?_ ?_ ?_
   ·exact⟨_,_,_,_,rfl,s4⟩
   ·rintro k σ H' _ ⟨y9,y10,y12,y13,rfl,sm⟩;exact SqL.of (sm _ _ (s2 _ _ hd))
   ·rintro k v σ H' hv ⟨y9,y10,y12,y13,rfl,sm⟩;obtain⟨t',x',rfl,hx,htx⟩:=at' hv;have hxd:=xBa hx;have hR:=sm _ _ e2;have hDn:=sm _ _ eD;have hxS:=hdS x' hxd;refine⟨t',_,rfl,SqT.of (sm _ _ (s2 _ _ htx)),rfl,_,_,rfl,_,_,rfl,_,_,rfl,rfl,?_⟩;refine⟨_,rfl,_,rfl,R,_,rfl,.inl (SqL.of hR),rfl,iG _,_,rfl,?_⟩;show if (!inV (.str x'.1) (rs.map V.str))=true then _ else _
    rw[iT]
    by_cases hm:x'.1∈rs
    rotate_left
    ·rw[xBb hm];exact gX ⟨_,_,_,_,rfl,sm⟩
    ·rw[xAk hm];obtain⟨j1,hj1⟩:=xDk hm;have l1:=(xAd.mp hj1).1;have r1:[x'.1]∈bU [tm] S:=by rw[hcm]; exact xM.mpr hm
     have hw:wto [tm] [x'.1] x'.2.1=some [x'.2.2]:=by rw[wo,xV ap hxd]; rfl
     have r2:=pV hle r1 hxS hw;have hm2:x'.2.2∈rs:=by rw[hcm] at r2; exact xM.mp r2
     obtain⟨j2,hj2⟩:=xDk hm2;have l2:=(xAd.mp hj2).1;have gn:∀ {j:Nat},j<rs.length->atI (((List.range rs.length).map rN).map V.str) (j:Int)=some (.str (rN j)):=λ{j} h=>iK (by rw[xAf,xAf,xEk h]; rfl);refine fX ⟨_,rfl,_,rfl,.inl ⟨rfl,_,SqL.of hR⟩,_,rfl,R,rs,x'.1,j1,rfl,rfl,hR,hj1,aUu ndR hj1,D,_,_,.str (rN j1),rfl,rfl,SqL.of hDn,gn l1,?_⟩
     have good:rW (rN 0) (hJ [tm] S) (dR [tm] S) (rN j1):=by
      rw[<- eix hj1];exact⟨yY hle r1,(lB hle).mpr (xAp.mpr ⟨_,r1,rfl⟩)⟩
     refine⟨_,rfl,X,dx,_,rfl,sm _ _ M0.ins,cZ _ _ _ _ _ _ (by decide),_,rfl,_,rfl,X,x,_,rN j1,.str x'.2.1,_,kn,_,wk,rfl,M2.same sm,xAn (yZ _ (by omega)).2 (by decide),eU hW (s2.trans sm),.inl ⟨x'.2.1,rfl,hsh _ (pm.mem_iff.mp hxS)⟩,λ_ _ u H5 eu s5=>?_,λ_ bad=>xAz (hg _ hxS) (by rw[bad]; simp),λbad=>xAz good bad⟩;cases eu;rw[<- eix hj1,zQ hle r1 hxS,hw];have hR5:=s5 _ _ hR;refine⟨_,rfl,_,rfl,.inl ⟨rfl,_,SqL.of hR5⟩,_,rfl,R,rs,x'.2.2,j2,rfl,rfl,hR5,hj2,aUu ndR hj2,D,_,_,.str (rN j2),rfl,rfl,SqL.of (s5 _ _ hDn),gn l2,rfl,_,rfl,eI (λy=>xAz y ?_) λ_=>⟨_,_,_,_,rfl,sm.trans s5⟩⟩;rw[<- eix hj2];simp[oV]
   rintro σ H5 ⟨y9,y10,y12,y13,rfl,sm⟩;refine⟨_,rfl,X,dx,_,rfl,sm _ _ M0.ins,cZ _ _ _ _ _ _ (by decide),X,x,_,_,kn,_,rfl,M2.same sm,xCc (eG λz hz=>hz) (xCc (qT hle) (by decide)),λl3 t3 H6 s6 n6 e6 so6 pm6=>?_⟩;have s26:=sm.trans s6;have hR6:=s26 _ _ e2;have hE6:=s26 _ _ (s2 _ _ hE);have hD6:=s26 _ _ eD;refine⟨_,rfl,R,_,rfl,.inl (SqL.of hR6),(rs.length:Int),(by rw[xAa]),by omega,by omega,λD4 hD4=>iH (n:=rs.length) (lo:=0) (λk σ' H'=>∃ v,σ'=[v,some (.ref D),some (.ref R),some (.ref e)]/\H' D4=some (.lst ((((rs.take k).filter λz=>decide (z∈es)).map λz=>rOf [tm] S [z]).map V.str))/\aP H6 H') ?_ ?_ ?_⟩
   ·exact⟨none,rfl,aE,smu hD4⟩
   ·rintro k σ' H' hk ⟨v,rfl,d1,d2⟩;have hz:=xAe hk;generalize rs[k]=z at hz
    have ef:((rs.take (k+1)).filter λz=>decide (z∈es))=((rs.take k).filter λz=>decide (z∈es))++(if z∈es then [z] else []):=by
     rw[xBf,hz,xDz];congr 1;show List.filter _ [z]=_;rw[xCw,xGi]
     simp
    refine⟨_,rfl,_,rfl,R,_,_,.str z,rfl,rfl,SqL.of (d2 _ _ hR6),by rw[xEw]; exact iK (by rw[xAf,hz]; rfl),_,rfl,e,_,rfl,.inl (SqL.of (d2 _ _ hE6)),rfl,iG _,_,rfl,?_⟩;show if inV (.str z) (es.map V.str)=true then _ else _
    rw[iT,ef]
    by_cases hm:z∈es
    ·rw[xAu (xAk hm),xAu hm];refine⟨_,rfl,_,rfl,D,_,_,.str (rN k),rfl,rfl,SqL.of (d2 _ _ hD6),by rw[xEw]; exact iK (by rw[xAf,xAf,xEk hk]; rfl),_,d1,bO ?_,_,rfl,?_,λb' o e'=>?_⟩
     ·rw[xAa,xAa];exact xAn (xCe ..) (by rw[xBe]; omega)
     ·rw[aE,xAm,xAm,<- eix hz];rfl
     ·rw[aL (aI e' hD4)];exact d2 _ _ e'
    ·rw[xAt (λq=>hm (xAg q)),xAt hm,xBo];exact⟨_,rfl,d1,d2⟩
   rintro σ' H7 ⟨v,rfl,d1,d2⟩;rw[xAx,<- oe] at d1;refine⟨D4,_,rfl,SqL.of d1,xCc (qT hle) (by decide),λp4 t4 hp4 pm4 so4=>?_⟩;obtain rfl:t3=t4:=(aTa so6 pm6).one (aMz so4 pm4 (zP hle)) λz=>Iff.rfl;have fin:=q _ (s2.trans (s26.trans (d2.trans (smu (o:=.lst (t3.map V.str)) hp4))));exact⟨l3,p4,t3,t3,rfl,rfl,SqL.of (smu hp4 _ _ (d2 _ _ e6)),SqL.of aE,by simpa using fin⟩
section
variable {A:Addr}{tm:MW}{k:RK}{S row:List Str}
abbrev rT (A:Addr)(tm:MW):Rl 0:=.inr (A,tm)
abbrev rP (k:RK):Rl 0:=.inl k
abbrev rA (A:Addr)(tm:MW):Rl 1:=.inr [rT A tm]
abbrev rB (A:Addr)(tm:MW)(k:RK):Rl 1:=.inr [rT A tm,rP k]
abbrev rP1 (k:RK):Rl 1:=.inl k
abbrev rC (A:Addr)(tm:MW)(k:RK):Rl 2:=.inr [rP1 k,rA A tm]
structure Mh (S:List Str)(tm:MW)(k:RK):Prop where
 mo:MOk S tm
 r5:(unl tm.rs []).length<=5
 wf:k.Wf
 ab:∀ z∈k.about,z∈S
theorem ms1:∀ {ms:List MW},Paired (Ev S 0) [rT A tm] ms->ms=[tm]
 | _,.cons e .nil=>by cases e; rfl
theorem ms2:∀ {ms:List MW},Paired (Ev S 0) [rT A tm,rP k] ms->ms=[tm,k.mw]
 | _,.cons e (.cons e' .nil)=>by cases e; cases e'; rfl
theorem Mh.c1 (h:Mh S tm k):(bU [tm] S).length<=5:=xAn (aHm h.mo.nm) h.r5
theorem Mh.gA (h:Mh S tm k):uT S 1 (rA A tm):=⟨xHp _ _,λr hr=>by rw[xAi.mp hr]; exact h.mo,λms hp=>by rw[ms1 hp]; exact xAn h.c1 (by decide)⟩
theorem Mh.evA (h:Mh S tm k){m:MW}(e:Ev S 1 (rA A tm) m):∃ kn,(∀ z,z∈kn↔z∈wkn [tm])/\m=one [tm] S kn:=by
 obtain⟨ms,hp,kn,hk,rfl⟩:=e;rw[ms1 hp] at hk ⊢;exact⟨kn,hk,rfl⟩
theorem Mh.gB (h:Mh S tm k):uT S 1 (rB A tm k):=by
 refine⟨xHp _ _,λr hr=>?_,λms hp=>?_⟩
 ·rcases xAo.mp hr with rfl | hr
  ·exact h.mo
  ·rw[xAi.mp hr];exact h.ab
 ·rw[ms2 hp];exact xAn (aQb h.mo.nm (oH k h.wf).nm h.r5 (oH k h.wf).few) (by decide)
theorem Mh.accB (h:Mh S tm k){m:MW}(e:Ev S 1 (rB A tm k) m)(hr:∀ y∈row,y∈S):acc m row=aAq (acc tm row) (acc k.mw row):=by
 obtain⟨ms,hp,kn,hk,rfl⟩:=id e;have hle:=(h.gB (A:=A)).2.2 ms hp;rw[ms2 hp] at hk hle ⊢;exact aQd hle hk hr
theorem ms3 (h:Mh S tm k):∀ {ms:List MW},Paired (Ev S 1) [rP1 k,rA A tm] ms->∃ kn,(∀ z,z∈kn↔z∈wkn [tm])/\ms=[k.mw,one [tm] S kn]
 | _,.cons e (.cons e' .nil)=>by
  cases e;obtain⟨kn,hk,rfl⟩:=h.evA e';exact⟨kn,hk,rfl⟩
theorem Mh.gC (h:Mh S tm k):uT S 2 (rC A tm k):=by
 refine⟨xHp _ _,λr hr=>?_,λms hp=>?_⟩
 ·rcases xAo.mp hr with rfl | hr
  ·exact h.ab
  ·rw[xAi.mp hr];exact h.gA
 ·obtain⟨kn,_,rfl⟩:=ms3 h hp;have h5:=h.c1;have hle:(bU [tm] S).length<=60:=xAn h5 (by decide);exact xAn (aQb (oH k h.wf).nm (lA hle) (oH k h.wf).few (xAn (aFu (kn:=kn) hle) h5)) (by decide)
theorem Mh.accC (h:Mh S tm k){m:MW}(e:Ev S 2 (rC A tm k) m)(hr:∀ y∈row,y∈S):acc m row=aAq (acc tm row) (acc k.mw row):=by
 obtain⟨ms,hp,kn,hk,rfl⟩:=id e;have hle:=(h.gC (A:=A)).2.2 ms hp;obtain⟨kn1,hk1,rfl⟩:=ms3 h hp;rw[aQd hle hk hr,aUv (xAn h.c1 (by decide)) hk1 hr,aHu]
end
structure Bth (Cs:Nat->Addr)(CM:Addr)(H:Hp)(x dd:Addr)(S:List Str)(tm:MW)(k:RK)(n:Nat)(r:Rl n):Prop where
 le:n<=2
 ci:nV n r=6
 at_:RAt Cs H n x r
 wf:WfR n r
 gd:uT S n r
 ta:TAt CM H dd n r
 ac:∀ m row,Ev S n r m->(∀ y∈row,y∈S)->acc m row=aAq (acc tm row) (acc k.mw row)
theorem Bth.nt {Cs:Nat->Addr}{CM x dd:Addr}{S:List Str}{tm:MW}{k:RK}{n:Nat}{r:Rl n}{H H':Hp}(s:NTb H H')(h:Bth Cs CM H x dd S tm k n r):Bth Cs CM H' x dd S tm k n r:=⟨h.le,h.ci,h.at_.nt s,h.wf,h.gd,h.ta.nt s,h.ac⟩
theorem jA {ss:List Str}(h:∀ z∈ss,aW z=true):hZ ss:=λz hz=>xAn (lY (h z hz)) (by decide)
section
variable {K:xAb}
theorem zW {C X dX a:Addr}{cl:Why->Addr}{y:V}{ss fs:List Str}{H:Hp}{Q:VK}{E:XK}(hX:H X=none)(hdX:H dX=none)(ha:H a=some (.lst (ss.map V.str)))(hy:(y=.non/\fs=[])\/∃ b,y=.ref b/\H b=some (.lst (fs.map V.str)))(h12:ss.length<=12)(hn:∀ z∈ss,aW z=true)(hd:ss.Nodup)(hf:∀ z∈fs,z∈ss)(fl:fs.length<=1000)
  (q:∀ S H',aP H H'->SOk S->(∀ z,z∈S↔z∈ss)->WAt C H' X (wts S 1 [])->Q .non H'):aBh K C cl [.ref X,.ref a,y] (upd (upd H dX (.own X)) X (.ins C dX [])) Q E:=by
 have k1:aP H (upd (upd H dX (.own X)) X (.ins C dX [])):=λb o e=>by rw[aL (aI e hX),aL (aI e hdX)]; exact e
 refine⟨X,a,y,dX,ss,fs,rfl,aE,SqL.of (k1 _ _ ha),hy.imp id λ⟨b,e,h⟩=>⟨b,e,SqL.of (k1 _ _ h)⟩,jA hn,λz hz=>jA hn z (hf z hz),fl,λH3 sb=>?_⟩;rw[aMa h12 hn hd hf];intro dw df o S e1 e2 e3 pm so;refine q S H3 (λb u e=>sb b u (aI e hX) (k1 b u e)) ⟨by rw[pm.length_eq]; exact h12,so,pm.nodup_iff.mpr hd,λz=>?_⟩ (λz=>pm.mem_iff) ⟨dX,_,dw,o,e1,aXl _ _,by rfl,e2⟩;rw[cY,sX,show (dN ([]:List (Key×V)) (Sum.inr z)).isSome=false from rfl,xIm,xBh,xDx]
 exact⟨λh=>h.2,λh=>⟨hn z (pm.mem_iff.mp h),h⟩⟩
end
theorem aQ.ex {P:Program}{w:World}{K:xAb}{mg:xSO}{base:Heap}{CX:CXT}{k0:Nat}{f:Addr}{fd:FuncData}{ps:List Str}{sp:Nat->Sp}(G:∀ n,aQ P w K mg base CX (k0+n) f fd ps (sp n))(N:Nat):aQ P w K mg base CX (k0+N) f fd ps (λvs H Q E=>∃ n,n<=N/\sp n vs H Q E):=
 ⟨λvs H Q E ⟨n,_,z⟩=>(G n).len vs H Q E z,λA outer s H args us vs Q E hr e0 hb r ⟨n,hn,z⟩=>(G n).run A outer s H args us vs Q E (hr.mono (by omega)) e0 hb r z⟩
theorem yC {ds:List Dr}{kn:List Str}{b:Str}{es:List Str}:∀ {row:List Str}{z u:Str},z∈cC b es ds->walk ds kn z row=some u->u∈cC b es ds
 | [],z,u,hz,e=>by cases e; exact hz
 | y::row,z,u,hz,e=>by
  unfold walk at e;cases hg:gH ds kn z y with
  | none=>rw[hg] at e; cases e
  | some z'=>rw[hg] at e; exact yC (uF hz hg) e
theorem xL {Cs:Nat->Addr}{cT:Addr}{n:Nat}{p X dX:Addr}{as:List Addr}{l:List (Rl n)}{H:Hp}{Q:VK}{E:XK}(hX:H X=none)(hdX:H dX=none)(hp:H p=some (.lst (as.map V.ref)))(hP:Paired (RAt Cs H n) as l)(hw:∀ r∈l,WfR n r)(h4:l.length<=4)(hd:oC (n+1) (.inr l)<=3)
  (q:∀ H',aP H H'->RAt Cs H' (n+1) X (.inr l)->Q .non H'):wT Cs cT n [.ref X,.ref p] (upd (upd H dX (.own X)) X (.ins (Cs 6) dX [])) Q E:=by
 have k1:aP H (upd (upd H dX (.own X)) X (.ins (Cs 6) dX [])):=λb o e=>by rw[aL (aI e hX),aL (aI e hdX)]; exact e
 refine⟨X,dX,p,as,l,rfl,aE,k1 _ _ hp,L2.Paired.mapP hP λ_ _ z=>z.same k1,hw,λz=>xAz z (by omega),λ_ _ p' H' sb e ep=>?_⟩;have s:aP H H':=λb o e=>sb b o (aI e hX) (k1 b o e);exact q H' s ⟨dX,p',as,e,ep,L2.Paired.mapP hP λ_ _ z=>z.same s⟩
inductive aDz (K:xAb)(Pr:Addr)(vs:List V)(H:Hp)(Q:VK)(E:XK):Prop
 | mk (a:Addr)(ns:List Int)(h0_:vs=[.ref a])(h1_:SqL K H a (ns.map V.int))(h2_:ns.length<=63)(h3_:H Pr=some (.tbl #[]))(h4_:∀ H',Q (.bl true) H')
def tGd (i j:Nat):TE:=λσ H Q=>∃ x y,σ[i]?=some (some x)/\σ[j]?=some (some y)/\Q (.bl (!decide (x=.non)&&!decide (y=.non))) H
def atE (es:List Str):Option Str->Bool
 | some z=>decide (z∈es)
 | none=>false
def isZ:Option Nat->Bool
 | some n=>decide (n=0)
 | none=>false
def aEv (r:Option Str)(es:List Str)(k:RK)(s:Option Nat):Bool:=atE es r&&(!decide (k.word="answer")||isZ s)
inductive tEn (σ:St)(H:Hp)(Q:VK):Prop
 | mk (r:Option Str)(t e d m tw:Addr)(b:Str)(es:List Str)(k:RK)(s:Option Nat)(h1:σ[14]?=some (some (oV r)))(h2:σ[4]?=some (some (.ref t)))(h3:H t=some (.tup [.str b,.ref e,.ref d,.ref m]))(h4:H e=some (.lst (es.map V.str)))(h5:σ[5]?=some (some (.ref tw)))(h6:H tw=some (.tup k.wl))(h7:σ[15]?=some (some (oI s)))(q:Q (.bl (aEv r es k s)) H)
theorem aOp (fs:List Str):inV .non (fs.map V.str)=false:=by
 unfold inV;rw[xJc];exact List.any_eq_false.mpr λy _ z=>nomatch z
structure LD where
 l:Addr
 m0:Addr
 c:Int
 t:Addr
 tw:Addr
 x4:Addr
 X:Addr
 y6:Addr
 x9:Addr
 xb:Addr
 e:Addr
 d:Addr
 m:Addr
 b:Str
 es:List Str
 ms:List Str
 ss:List Str
 S:List Str
 ds:List Dr
 k:RK
 n:Nat
 r:Rl n
abbrev LD.tm (D:LD):MW:=⟨D.b,D.es,aZ D.ds D.ms,D.ds⟩
structure LS (D:LD):Prop where
 l1:1<=D.ss.length
 SO:SOk D.S
 mS:∀ z,z∈D.S↔z∈D.ss
 mh:Mh D.S D.tm D.k
 ap:Ky.Apart D.ds
 ln:D.ds.length<=60/\D.ms.length<=60
 nm:∀ z∈D.S,aW z=true
structure LF (K:xAb)(C CM Pr:Addr)(Cs:Nat->Addr)(ns:List Int)(a:Addr)(D:LD)(H:Hp):Prop where
 sa:SqL K H a (ns.map V.int)
 hl:H D.l=some (.lst (D.ss.map V.str))
 ht:H D.t=some (.tup [.str D.b,.ref D.e,.ref D.d,.ref D.m])
 hE:H D.e=some (.lst (D.es.map V.str))
 hD:cQ H D.d D.ds
 hM:H D.m=some (.lst (D.ms.map V.str))
 tw:H D.tw=some (.tup D.k.wl)
 W:WAt C H D.x4 (wts D.S 1 [])
 M:MM CM H D.X D.x4 D.b D.es (aZ D.ds D.ms) D.ds
 rt:RAt Cs H 0 D.y6 (rT D.X D.tm)
 bt:Bth Cs CM H D.xb D.x4 D.S D.tm D.k D.n D.r
 T:Tab jF jE Pr H
theorem LF.off {K:xAb}{C CM Pr:Addr}{Cs:Nat->Addr}{ns:List Int}{a:Addr}{D:LD}{H H':Hp}(L:LF K C CM Pr Cs ns a D H)(s:aP (off H Pr) H')(T:Tab jF jE Pr H'):LF K C CM Pr Cs ns a D H':=
 have nt:=lH L.T.tb s
 ⟨ntL nt L.sa,nt _ _ L.hl trivial,nt _ _ L.ht trivial,nt _ _ L.hE trivial,ntD nt L.hD,nt _ _ L.hM trivial,nt _ _ L.tw trivial,ntW nt L.W,ntM nt L.M,L.rt.nt nt,L.bt.nt nt,T⟩
theorem LF.same {K:xAb}{C CM Pr:Addr}{Cs:Nat->Addr}{ns:List Int}{a:Addr}{D:LD}{H H':Hp}(L:LF K C CM Pr Cs ns a D H)(s:aP H H'):LF K C CM Pr Cs ns a D H':=L.off (xI s) (L.T.same s)
inductive JL (K:xAb)(C CM Pr:Addr)(Cs:Nat->Addr)(ns:List Int)(a:Addr)(σ:St)(H:Hp):Prop
 | mk (D:LD)(h0_:σ=[some (.ref a),some (.ref D.l),some (.ref D.m0),some (.int D.c),some (.ref D.t),some (.ref D.tw),some (.ref D.x4),some (.ref D.X),some (.ref D.y6),some (.ref D.x9),some (.ref D.xb),none,none,none,none,none,none,none])(h1_:LS D)(h2_:LF K C CM Pr Cs ns a D H)
section
variable {P:Program}{w:World}{K:xAb}{mg:xSO}{base:Heap}{Cs:Nat->Addr}{C CM Pr cT cR cN cRu:Addr}{cl:Why->Addr}{fs:_root_.Fin 8->Addr}{fds:_root_.Fin 8->FuncData}
structure DeC (P:Program)(w:World)(K:xAb)(mg:xSO)(base:Heap)(C f:Addr)(cl:Why->Addr)(fd:FuncData):Prop where
 G:aQ P w K mg base (CXE P w) 4 f fd ["self","names","free"] (aBh K C cl)
 k:Mk K C f
 m:mg "Deeds"=some (.ref C)
 b:aX K fd ["self","names","free"] []
 b1:aX K fd ["self","names","free"] [.none]
structure CaC (P:Program)(w:World)(K:xAb)(mg:xSO)(base:Heap)(n:Nat)(x:Str)(f:Addr)(fd:FuncData)(ps:List Str)(sp:Sp):Prop where
 G:aQ P w K mg base CX0 n f fd ps sp
 k:keepIn K (.ref f)=true
 b:aX K fd ps []
 m:mg x=some (.ref f)
structure MeC (P:Program)(w:World)(K:xAb)(mg:xSO)(base:Heap)(n:Nat)(C:Addr)(x:Str)(f:Addr)(fd:FuncData)(ps:List Str)(sp:Sp):Prop where
 G:aQ P w K mg base (CXE P w) n f fd ps sp
 b:aX K fd ps []
 m:eE K C x f
abbrev N35:List Str:=["_law_script","_law_names","_law_free","_law_cell","_law_told","_law_words","_law_deeds","_law_machine","_law_rule","_law_plain","_law_both","_law_joined","_law_k","_law_row_here","_law_room","_law_state","_law_good","_law_ends"]
theorem scL:aR N35 ["_law_script"] (aB aQy):=xfs
theorem aRn {f fC fT fMB fDr fD fMI fTI fAI fK fRO fB fE fRw fWa fCo fAn:Addr}{fd fdC fdT fdMB fdDr fdD fdMI fdTI fdAI fdK fdRO fdB fdE fdRw fdWa fdCo fdAn:FuncData}(F:Fun K "law" "law" aQy f fd)(T:Txt K mg)(MC:kJ K CM)(NC:aAt K CM)(IC:aSj K (Cs 7))(mRu:mg "Rule" = some (.ref cRu))(kit:kitOne K (.ref (Cs 7)) (.ref cRu)=some true)
  (CE:CaC P w K mg base 2 "_law_cell_at" fC fdC ["_law_script","_law_k"] (aIp K))(TW:CaC P w K mg base 3 "_law_two_deeds" fT fdT ["_law_cell"] aIj)(MB:CaC P w K mg base 2 "_law_machine_by" fMB fdMB ["_law_cell","_law_names","_law_many"] (rO K))
  (DR:CaC P w K mg base 1 "_law_drawn" fDr fdDr ["_law_cell","_law_names"] (aEc K))(RO:CaC P w K mg base 2 "_law_row" fRw fdRw NRo (aIk K))(WA:CaC P w K mg base 1 "_law_walked" fWa fdWa ["_law_told","_law_row_here"] (yI K))(CO:CaC P w K mg base 3 "_law_counted" fCo fdCo ["_law_words","_law_row_here"] (vS K))
  (AN:CaC P w K mg base 5 "_law_named_anew" fAn fdAn ["_law_machine","_law_told","_law_names"] (aIq K C CM))(DE:DeC P w K mg base C fD cl fdD)(MK:MkC P w K mg base C CM fMI cl fdMI)(TO:CkC P w K mg base CX0 1 "Told" (Cs 7) fTI fdTI ["self","machine"] (wP Cs))
  (AI:∀ n,CkC P w K mg base (CXE P w) (3+n) "All" (Cs 6) fAI fdAI ["self","rules"] (wT Cs cT n))(M:Fam K Cs "machine" ["self","deeds"] fs fds)(Gt:aQ P w K mg base (CXE P w) 1 (fs 7) (fds 7) ["self","deeds"] (sI Cs))
  (G:∀ (n:Nat) (i:_root_.Fin 8),aQ P w K mg base (CXE P w) (11+n) (fs i) (fds i) ["self","deeds"] (jV C CM Pr Cs n i))
  (GK:∀ n,aQ P w K mg base (CXE P w) (12+n) fK fdK ["rule","deeds","row"] (aEa K C CM Pr Cs n))(kK:keepIn K (.ref fK)=true)(bK:aX K fdK ["rule","deeds","row"] [])(mK:mg "keeps" = some (.ref fK))
  (GR:aQ P w K mg base (CXE P w) 4 fRO fdRO ["_law_row_here"] (yL Cs))(kR:keepIn K (.ref fRO)=true)(bR:aX K fdRO ["_law_row_here"] [])(mR:mg "_law_rule_of" = some (.ref fRO))
  (BH:MeC P w K mg base 4 CM "behind" fB fdB ["self","row"] (qI K C CM cl))(EN:MeC P w K mg base 3 CM "is_end" fE fdE ["self","room"] (qH CM cR)):aQ P w K mg base CX0 15 f fd ["_law_script"] (aDz K Pr):=by
 refine F.ok scL (λvs H Q E h=>?_) (λcdv A outer s H vs Q E hr h=>?_)
 ·obtain⟨a,ns,rfl,_⟩:=h;rfl
 ·obtain⟨a,ns,rfl,hS,hlen,hPr,kq⟩:=h;have hr1:cM 1 _:=hr.mono (by decide);have hr2:cM 2 _:=hr.mono (by decide);have hr3:cM 3 _:=hr.mono (by decide);have hr4:cM (3+0+1) _:=hr.mono (by decide);have hr5:cM (4+1) _:=hr.mono (by decide);have hr6:cM (3+1+1) _:=hr.mono (by decide);have hr7:cM (1+1) _:=hr.mono (by decide);have hr13:cM (11+2) _:=hr.mono (by decide);have hu:=jH hr;have GM:=aQ.ex (λn=>G n 6) 2;have GKe:=aQ.ex GK 2
  refine⟨_,aJ (xE (bX TW.G hr3 rfl TW.m TW.k TW.b .nil bZ (pac (bX CE.G hr2 (by rfl) CE.m CE.k CE.b .nil bZ (pac (pv 0) (pac aN aF))) aF)) (eO rfl (aY (aS (i:=1) scL.nd rfl (xAy rfl)) (aY (aS (i:=2) scL.nd rfl (xAy rfl)) dO))))
   (aJ (bJ (i:=3) scL.nd rfl (xAy rfl) (bX CE.G hr2 (by rfl) CE.m CE.k CE.b .nil bZ (pac (pv 0) (pac aN aF))))
   (aJ (bJ (i:=4) scL.nd rfl (xAy rfl) (bX MB.G hr2 rfl MB.m MB.k MB.b .nil bZ (pac (pv 3) (pac (pv 1) (pac (bV eK aN (bV dQ (bV gJ (pv 3) aN) aN)) aF)))))
   (aJ (bJ (i:=5) scL.nd rfl (xAy rfl) (bX DR.G hr1 rfl DR.m DR.k DR.b .nil bZ (pac (bX CE.G hr2 (by rfl) CE.m CE.k CE.b .nil bZ (pac (pv 0) (pac aN aF))) (pac (pv 1) aF))))
   (aJ (bJ (i:=6) scL.nd rfl (xAy rfl) (dB DE.k DE.G hr5 rfl DE.m DE.b .nil fV (pac (pv 1) (pac (pv 2) aF))))
   (aJ (bJ (i:=7) scL.nd rfl (xAy rfl) (dB MK.k MK.G hr5 rfl MK.m MK.b .nil fV (pac (pv 6) (pac (cG cV (pv 4) aN (λ_ _=>rfl)) (pac (cG cV (pv 4) aN (λ_ _=>rfl)) (pac (cG cV (pv 4) aN (λ_ _=>rfl)) (pac (cG cV (pv 4) aN (λ_ _=>rfl)) aF)))))))
   (aJ (bJ (i:=8) scL.nd rfl (xAy rfl) (dB TO.k TO.G hr7 rfl TO.m TO.b .nil bZ (pac (pv 7) aF)))
   (aJ (cK (nZ (aV (zL hu) (cS (pv 8) (M.c 7) (M.m 7) Gt hr1 (M.b 7) .nil fV (pac (pv 6) aF)) (pv 7) (bC _))
     (nZ (aV (zL hu) (cS (pv 8) (M.c 7) (M.m 7) Gt hr1 (M.b 7) .nil fV (pac (dB (dvs:=[.non]) DE.k DE.G hr5 (by rfl) DE.m DE.b1 (.cons rfl .nil) fV (pac (cA (pac aO aF)) aF)) aF)) (pv 7) (bC _))
     (lQ (jC (jW (cB aHo (by rfl) T.isi Bo.isinstance (pac (pv 8) (pac (hG (v:=.ref cRu) (by rfl) mRu rfl) aF)))))))).pt (aM (aU lX)) bS)
   (aJ (cK (jC (jW (bX AN.G hr5 (by rfl) AN.m AN.k AN.b .nil bZ (pac (cS (dB (AI 0).k (AI 0).G hr4 (by rfl) (AI 0).m (AI 0).b .nil fV (pac (cA (pac (pv 8) aF)) aF)) (M.c 6) (M.m 6) GM hr13 (M.b 6) .nil fV (pac (pv 6) aF)) (pac (pv 4) (pac (pv 1) aF)))))) (aM (aU lX)) bS)
   (aJ (bJ (i:=9) scL.nd rfl (xAy rfl) (bX GR hr4 rfl mR kR bR .nil fV (pac (pv 5) aF)))
   (aJ (bJ (i:=10) scL.nd rfl (xAy rfl) (dB (AI 0).k (AI 0).G hr4 rfl (AI 0).m (AI 0).b .nil fV (pac (cA (pac (pv 8) (pac (pv 9) aF))) aF)))
   (jQ (JL K C CM Pr Cs ns a)
    (cK (aV eC (bV dQ (bV gJ (pv 3) aN) aN) aN (bC _))
     (aM (bJ (i:=10) scL.nd rfl (xAy rfl) (dB (AI 1).k (AI 1).G hr6 rfl (AI 1).m (AI 1).b .nil fV (pac (cA (pac (pv 9) (pac (dB (AI 0).k (AI 0).G hr4 (by rfl) (AI 0).m (AI 0).b .nil fV (pac (cA (pac (dB TO.k TO.G hr7 (by rfl) TO.m TO.b .nil bZ (pac (pv 7) aF)) aF)) aF)) aF))) aF)))) bS)
   (aJ (bJ (i:=11) scL.nd rfl (xAy rfl) (cS (pv 10) (M.c 6) (M.m 6) GM hr13 (M.b 6) .nil fV (pac (pv 6) aF)))
   (aJ (dZ PassesOwn.never rfl (gW rfl T.range (pac aN aF)) (aS (i:=12) scL.nd rfl (xAy rfl))
    (aJ (bJ (i:=13) scL.nd rfl (xAy rfl) (bX RO.G hr2 (by rfl) RO.m RO.k RO.b .nil bZ (pac (bX CE.G hr2 (by rfl) CE.m CE.k CE.b .nil bZ (pac (pv 0) (pac (bV eK aN (pv 12)) aF))) (pac (pv 1) (pac aN aF)))))
    (aJ (aJg (i:=14) (j:=15) rfl scL.nd rfl rfl (by decide) rfl rfl (pac (bX WA.G hr1 (by rfl) WA.m WA.k WA.b .nil bZ (pac (pv 4) (pac (pv 13) aF))) (pac (bX CO.G hr3 (by rfl) CO.m CO.k CO.b .nil bZ (pac (pv 5) (pac (pv 13) aF))) aF)) rfl)
    (aJ (cK (nZ (aV rQ (bX GKe hr (by rfl) mK kK bK .nil fV (pac (pv 8) (pac (pv 6) (pac (pv 13) aF)))) (fS jS (pv 14) eJ (bC _)) (bC _)) (lQ (aV rQ (cS (pv 7) MC.cl BH.m BH.G hr4 BH.b .nil fV (pac (pv 13) aF)) (pv 14) (bC _)))).pt (aM (aU lX)) bS)
    (aJ (bJ (i:=16) scL.nd rfl (xAy rfl) (aTs (t':=tGd 14 15) (λσ H Q h=>by
     obtain⟨x,y,h1,h2,q⟩:=h;refine⟨_,h1,rfl,_,rfl,?_⟩
     by_cases hx:x=.non
     ·rw[xAk hx] at q ⊢;exact fX q
     ·rw[xBb hx] at q ⊢;exact gX ⟨_,h2,rfl,q⟩) (qP (fS jS (pv 14) eJ (bC _)) (qO (fS jS (pv 15) eJ (bC _))))))
    (aJ (cK (nZ (aV rQ (bX GKe hr (by rfl) mK kK bK .nil fV (pac (pv 10) (pac (pv 6) (pac (pv 13) aF)))) (pv 16) (bC _)) (lQ (aV rQ (fS jS (cS (pv 11) MC.cl BH.m BH.G hr4 BH.b .nil fV (pac (pv 13) aF)) eJ (bC _)) (pv 16) (bC _)))).pt (aM (aU lX)) bS)
    (aJ (bJ (i:=17) scL.nd rfl (xAy rfl) (aTs (t':=tEn) (λσ H Q h=>by
     obtain⟨r,t,e,d,m,tw,b,es,k,st,h1,h2,h3,h4,h5,h6,h7,q⟩:=h;refine⟨_,h1,_,h2,t,_,_,.ref e,rfl,rfl,SqT.of h3,rfl,e,_,rfl,.inl (SqL.of h4),by cases r <;> rfl,iG _,_,rfl,?_⟩
     unfold aEv at q;show if inV (oV r) (es.map V.str)=true then _ else _
     have e1:inV (oV r) (es.map V.str)=atE es r:=by
      cases r with
      | none=>exact aOp es
      | some z=>exact iT z es
     rw[e1];cases hq:atE es r with
     | false=>
      rw[hq] at q;exact fX q
     | true=>
      rw[hq,xFc] at q;refine gX ⟨_,h5,tw,_,_,.str k.word,rfl,rfl,SqT.of h6,at0 k,rfl,_,rfl,?_⟩;have e2:decide (V.str k.word=V.str "answer")=decide (k.word="answer"):=by rw[xCq]; exact⟨V.str.inj,congrArg V.str⟩
      rw[e2];cases hw:decide (k.word="answer") with
      | false=>
       rw[hw] at q;exact gX q
      | true=>
       rw[hw] at q;refine fX ⟨_,h7,by cases st <;> rfl,?_⟩
       cases st with
       | none=>exact q
       | some n=>
        have e3:decide (oI (some n)=.int 0)=decide (n=0):=by rw[xCq]; exact⟨λh=>xIl (V.int.inj h),λh=>by rw[h]; rfl⟩
        rw[e3];exact q) (qP (fS (show OpR _ _ (rIn K false) from kE) (pv 14) (cG (show IxR _ (aBy K) from cV) (pv 4) aN (λ_ _=>rfl)) (by with_unfolding_all rfl)) (qO (aTt (fS rQ (cG (show IxR _ (aBy K) from cV) (pv 5) aN (λ_ _=>rfl)) aO (bC _)) (qO (fS eC (pv 15) aN (bC _))))))))
    (aM (cK (qM (jW (pv 16)) (pH (aV rQ (cS (pv 11) MC.cl EN.m EN.G hr3 EN.b .nil fV (pac (cS (pv 11) MC.cl BH.m BH.G hr4 BH.b .nil fV (pac (pv 13) aF)) aF)) (pv 17) (bC _)))).pt (aM (aU lX)) bS)))))))))
   (aM (aU lX))))))))))))))),?_⟩
  refine⟨_,rfl,a,ns,0,rfl,hS,RW.cellAt ns 0,rfl,λt0 l m0 ss fs H1 td s1 ht0 hl hm=>⟨t0,_,rfl,SqT.of ht0,rfl,_,_,rfl,_,_,rfl,rfl,?_⟩⟩;have hnm:∀ z∈ss,aW z=true:=λz hz=>aBj z (td.m12 z hz);refine⟨_,rfl,a,ns,1,rfl,s1.seq hS,?_⟩;generalize RW.cellAt ns 1=c;obtain⟨n,en,hn1,hn5⟩:∃ n:Nat,1+c/30%5=(n:Int)/\1<=n/\n<=5:=⟨(1+c/30%5).toNat,by omega,by omega,by omega⟩;refine⟨_,rfl,_,rfl,_,rfl,_,_,rfl,rfl,⟨by decide,by decide⟩,_,_,rfl,rfl,(by decide:(0:Int)<5),_,_,rfl,rfl,c,l,n,ss,(by show [V.int c,V.ref l,V.int (1+c/30%5)]=_; rw[en]),SqL.of hl,hn1,hn5,td.le,λt e d m H2 s2 _ _ _ ht hE hD hM=>?_⟩;have R:=aTr (c:=c) (n:=n) hn1 hn5 td.le td.nd
  have r5:(unl (cC (gZ c 0) (jI c n) (dU c ss n)) []).length<=5:=by
   have:=eG R.rb
   rw[eQ] at this;omega
  have ⟨l1,l2,l3⟩:=R.le;have ⟨_,ld,lm⟩:=R.sm;have nmR:=R.nm;have ap:=R.ap;have ddR:=R.dd;have knR:=R.kn;clear R;generalize gZ c 0=b at ht r5 nmR;generalize jI c n=es at hE r5 nmR l1;generalize dU c ss n=ds at hD r5 nmR l2 ld ap ddR knR;generalize oM c ss=ms at hM l3 lm knR;have s12:=s1.trans s2;refine⟨_,rfl,a,ns,2,rfl,s12.seq hS,_,rfl,RW.cellAt ns 2,l,ss,rfl,SqL.of (s2 _ _ hl),⟨td.l2,td.le⟩,td.nd,λtw k H3 s3 hk hab htw=>?_⟩;have s13:=s12.trans s3;refine⟨_,rfl,_,rfl,λx4 d4 hx4 hd4 _=>zW (fs:=fs) hx4 hd4 (s3 _ _ (s2 _ _ hl)) (.inr ⟨m0,rfl,s3 _ _ (s2 _ _ hm)⟩) td.le hnm td.nd td.fr (by have:=td.fl; omega) λS H4 s4 SO mS W4=>⟨rfl,?_⟩⟩;have s24:=s3.trans s4;have s14:=s12.trans s24;have pm:S.Perm ss:=(xHw SO.nd td.nd).mpr mS;have nmS:∀ z∈S,aW z=true:=λz hz=>hnm z ((mS z).mp hz);have mh:Mh S ⟨b,es,aZ ds ms,ds⟩ k:=⟨⟨nmR,λz hz=>(mS z).mpr (knR z hz),xAn r5 (by decide)⟩,r5,hk,λz hz=>(mS z).mpr (hab z hz)⟩;have ht4:=s24 _ _ ht;refine⟨_,rfl,_,rfl,t,_,_,.str b,rfl,rfl,SqT.of ht4,rfl,_,rfl,t,_,_,.ref e,rfl,rfl,SqT.of ht4,rfl,_,rfl,t,_,_,.ref d,rfl,rfl,SqT.of ht4,rfl,_,rfl,t,_,_,.ref m,rfl,rfl,SqT.of ht4,rfl,λX dX hX hdX _=>?_⟩;have k5:aP H4 (upd (upd H4 dX (.own X)) X (.ins CM dX [])):=λb o e=>by rw[aL (aI e hX),aL (aI e hdX)]; exact e
  refine⟨X,x4,e,d,dX,b,.ref m,es,ms,ds,_,rfl,aE,eU W4 k5,k5 _ _ (s24 _ _ hE),(hD.same s24).same k5,.inr ⟨m,rfl,k5 _ _ (s24 _ _ hM)⟩,⟨l1,by omega,l3⟩,nmR,λz hz=>jA hnm z (knR z hz),ap,by rw[sP]; omega,λz=>xAz (xBj.mpr λv hv=>?_) z,λ_ lM eM kM kvs g H5 sb5 M5=>⟨rfl,?_⟩⟩
  ·obtain⟨y,hy,rfl⟩:=xAp.mp hv;exact (SO.gd y).mpr ((mS y).mpr (knR y hy))
  have s45:aP H4 H5:=λb o e=>sb5 b o (aI e hX) (k5 b o e);have MX:MM CM H5 X x4 b es (aZ ds ms) ds:=⟨dX,lM,eM,kM,kvs,g,M5⟩;refine⟨_,rfl,λy6 d6 hy6 hd6 _=>⟨y6,d6,X,rfl,aE,λH6 sb6 e6=>⟨rfl,?_⟩⟩⟩;have s56:aP H5 H6:=λb o e=>sb6 b o (aI e hy6) (by rw[aL (aI e hy6),aL (aI e hd6)]; exact e);have s46:=s45.trans s56;have iX:=s56 _ _ M5.ins;have tl:=vI X "machine" (by decide);refine⟨_,rfl,y6,d6,_,rfl,e6,tl,_,rfl,y6,d6,X,.ref x4,rfl,e6,_,rfl,X,CM,dX,_,rfl,rfl,iX,NC,_,rfl,fX ?_⟩;refine⟨_,rfl,y6,d6,_,rfl,e6,tl,by show 1<=sizeLine; decide,λp7 hp7 X7 d7 hX7 hd7 _=>zW (ss:=["other"]) (fs:=[]) hX7 hd7 aE (.inl ⟨rfl,rfl⟩) (by decide) (by decide +kernel) (by decide +kernel) (λ_ hz=>nomatch hz) (by decide) λS7 H7 s7 SO7 m7 W7=>⟨rfl,?_⟩⟩;have s67:aP H6 H7:=(smu hp7).trans s7;clear s7 SO7 m7 W7 hX7 hd7 hp7;have e7:=s67 _ _ e6;have s57:=s56.trans s67;refine⟨y6,d6,X,.ref X7,rfl,e7,_,rfl,X,CM,dX,_,rfl,rfl,s57 _ _ M5.ins,NC,_,rfl,fX ?_⟩;refine⟨_,rfl,y6,Cs 7,d6,_,_,_,true,rfl,aNi,e7,IC,kit,_,rfl,fX ?_⟩;have s47:=s45.trans s57;have s07:=s14.trans s47;have T7:Tab jF jE Pr H7:=.inl (s07 _ _ hPr);have MX7:=MX.same s57;have W7:=eU W4 s47;have nil:hZ []:=λ_ hz=>nomatch hz;refine⟨_,rfl,by show 1<=sizeLine; decide,λp8 hp8 X8 d8 hX8 hd8 _=>?_⟩;have q14:1<=4:=by decide
  have q24:2<=4:=by decide
  have q13:1<=3:=by decide
  have q23:2<=3:=by decide
  have q12:1<=2:=by decide
  have q22:2<=2:=by decide
  have e8':=smu (o:=.lst [.ref y6]) hp8 _ _ e7;refine xL (n:=0) (as:=[y6]) (l:=[rT X ⟨b,es,aZ ds ms,ds⟩]) hX8 hd8 aE (.cons ⟨d6,e8'⟩ .nil) (λr hr=>by rw[xAi.mp hr]; trivial) q14 q13 λH8 s8' R8=>⟨rfl,?_⟩;have s78:aP H7 H8:=(smu hp8).trans s8';clear s8' e8' hp8 hX8 hd8;obtain⟨dx8,pr8,as8,hi8,_⟩:=id R8;have wfT:∀ r∈[rT X ⟨b,es,aZ ds ms,ds⟩],WfR 0 r:=λr hr=>by rw[xAi.mp hr]; trivial
  have MX8:=MX7.same s78;have W8:=eU W7 s78;have T8:=T7.same s78;refine⟨X8,dx8,_,rfl,hi8,nN pr8 "machine" (by decide),_,rfl,1,q12,X8,x4,rA X ⟨b,es,aZ ds ms,ds⟩,S,rfl,rfl,R8,⟨q14,wfT⟩,q14,λz hz=>jA nmS z (mh.gA.about z hz),W8,SO,T8,mh.gA,λr hr=>by rw[xAi.mp hr]; exact MX8,λX9 m9 H9 ev s9 T9 M9=>?_⟩;obtain⟨kn9,hk9,rfl⟩:=mh.evA ev;have n9:=lH T8.tb s9;have s48:=s47.trans s78;have s28:=s24.trans s48;refine⟨_,rfl,_,rfl,X9,t,l,e,d,m,x4,b,es,ms,ss,S,kn9,ds,_,_,rfl,rfl,M9,n9 _ _ (s28 _ _ ht) trivial,n9 _ _ (s28 _ _ hE) trivial,ntD n9 (hD.same s28),n9 _ _ (s28 _ _ (s2 _ _ hl)) trivial,td.le,pm,SO.so,SO.nd,ap,ld,xAn mh.c1 (by decide),λx hx=>(mS _).mpr (ddR x hx),ntW n9 W8,λz hz=>(SO.gd z).mpr hz,λz hz=>jA hnm z hz,λH10 s10=>⟨_,rfl,fX ?_⟩⟩;have T10:=T9.same s10;have n10:NTb H8 H10:=lH T8.tb (s9.trans s10);have htw8:=(s4.trans s48) _ _ htw;refine⟨_,rfl,tw,k,rfl,n10 _ _ htw8 trivial,hk,λx9 H11 s11 R11=>?_⟩;have st:∀ {H H':Hp},aP H H'->∀ b o,H b=some o->Rq o->H' b=some o:=λs b o e _=>s b o e;have e11:=s11 _ _ (n10 _ _ (s78 _ _ e7) trivial);refine⟨_,rfl,_,rfl,by show 2<=sizeLine; decide,λp12 hp12 X12 d12 hX12 hd12 _=>xL (n:=0) (as:=[y6,x9]) (l:=[rT X ⟨b,es,aZ ds ms,ds⟩,rP k]) hX12 hd12 aE (.cons ⟨d6,smu hp12 _ _ e11⟩ (.cons (R11.st (st (smu hp12))) .nil)) (λr hr=>?_) q24 q13 λH13 s13' R13=>⟨rfl,?_⟩⟩
  ·rcases xAo.mp hr with rfl | hr
   ·trivial
   ·rw[xAi.mp hr]; exact hk
  have s1113:aP H11 H13:=(smu hp12).trans s13';clear s13' hp12 hX12 hd12;have n13:NTb H8 H13:=λb o e p=>s1113 _ _ (s11 _ _ (n10 b o e p));have T13:=T10.same (s11.trans s1113)
  have wfB:WfR 1 (rB X ⟨b,es,aZ ds ms,ds⟩ k):=⟨q24,λr hr=>by
   rcases xAo.mp hr with rfl | hr
   ·trivial
   ·rw[xAi.mp hr]; exact hk⟩
  have LS0:∀ xb n r,LS ⟨l,m0,c,t,tw,x4,X,y6,x9,xb,e,d,m,b,es,ms,ss,S,ds,k,n,r⟩:=λxb n r=>⟨by have:=td.l2; show 1<=ss.length; omega,SO,mS,mh,ap,⟨ld,by show ms.length<=60; omega⟩,nmS⟩
  have LF0:LF K C CM Pr Cs ns a ⟨l,m0,c,t,tw,x4,X,y6,x9,X12,e,d,m,b,es,ms,ss,S,ds,k,1,rB X ⟨b,es,aZ ds ms,ds⟩ k⟩ H13:=
   ⟨ntL n13 ((s12.trans s28).seq hS),n13 _ _ (s28 _ _ (s2 _ _ hl)) trivial,n13 _ _ (s28 _ _ ht) trivial,n13 _ _ (s28 _ _ hE) trivial,ntD n13 (hD.same s28),n13 _ _ (s28 _ _ hM) trivial,n13 _ _ htw8 trivial,ntW n13 W8,ntM n13 MX8,⟨d6,n13 _ _ (s78 _ _ e7) trivial⟩,
    ⟨q12,rfl,R13,wfB,mh.gB,λr hr=>by
     rcases xAo.mp hr with rfl | hr
     ·exact ntM n13 MX8
     ·rw[xAi.mp hr]; trivial,λm row ev hr=>mh.accB ev hr⟩,T13⟩
  refine⟨⟨_,rfl,_,_,rfl,rfl,⟨by decide,by decide⟩,_,_,rfl,rfl,(by decide:(0:Int)<2),rfl,_,rfl,eI (λ_=>?_) λ_=>⟨_,rfl,LS0 _ _ _,LF0⟩⟩,?_⟩
  ·have R13':=R11.st (st s1113);have iy:=λ{H'} (s:aP H13 H')=>s _ _ (n13 _ _ (s78 _ _ e7) trivial);refine⟨_,rfl,_,rfl,λy14 d14 hy14 hd14 _=>⟨y14,d14,X,rfl,aE,λH14 sb14 e14=>⟨rfl,by show 1<=sizeLine; decide,λp15 hp15 X15 d15 hX15 hd15 _=>xL (n:=0) (as:=[y14]) (l:=[rT X ⟨b,es,aZ ds ms,ds⟩]) hX15 hd15 aE (.cons ⟨d14,smu hp15 _ _ e14⟩ .nil) wfT q14 q13 λH15 s15 R15=>⟨rfl,by show 2<=sizeLine; decide,λp16 hp16 X16 d16 hX16 hd16 _=>?_⟩⟩⟩⟩;have k14:aP H13 H14:=λb o e=>sb14 b o (aI e hy14) (by rw[aL (aI e hy14),aL (aI e hd14)]; exact e);have k15:aP H13 H15:=k14.trans ((smu hp15).trans s15);have k16:=k15.trans (smu (o:=.lst ([x9,X15].map V.ref)) hp16);refine xL (n:=1) (as:=[x9,X15]) (l:=[rP1 k,rA X ⟨b,es,aZ ds ms,ds⟩]) hX16 hd16 aE (.cons (R13'.st (st k16)) (.cons (R15.same (smu hp16)) .nil)) (λr hr=>?_) q24 q23 λH17 s17 R17=>⟨rfl,?_⟩
   ·rcases xAo.mp hr with rfl | hr
    ·exact hk
    ·rw[xAi.mp hr]; exact⟨q14,wfT⟩
   have L17:=LF0.same (k16.trans s17);refine⟨⟨l,m0,c,t,tw,x4,X,y6,x9,X16,e,d,m,b,es,ms,ss,S,ds,k,2,rC X ⟨b,es,aZ ds ms,ds⟩ k⟩,rfl,LS0 _ _ _,⟨L17.sa,L17.hl,L17.ht,L17.hE,L17.hD,L17.hM,L17.tw,L17.W,L17.M,L17.rt,⟨q22,rfl,R17,⟨q24,λr hr=>?_⟩,mh.gC,λr hr=>?_,λm row ev hr=>mh.accC ev hr⟩,L17.T⟩⟩
   ·rcases xAo.mp hr with rfl | hr
    ·exact hk
    ·rw[xAi.mp hr]; exact⟨q14,wfT⟩
   ·rcases xAo.mp hr with rfl | hr
    ·trivial
    ·rw[xAi.mp hr];exact λr hr=>by rw[xAi.mp hr]; exact L17.M
  rintro σ H13 ⟨D,rfl,Z,L⟩;obtain⟨dy,fl,hy,hfl⟩:=L.bt.at_.ins;rw[L.bt.ci] at hy;have shR:hZ (jK D.n D.r):=λz hz=>jA Z.nm z (L.bt.gd.about z hz);have n4:D.n<=4:=xAn L.bt.le (by decide);refine⟨_,rfl,D.xb,dy,fl,rfl,hy,hfl "machine" (by decide),_,rfl,D.n,L.bt.le,D.xb,D.x4,D.r,D.S,rfl,L.bt.ci,L.bt.at_,L.bt.wf,n4,shR,L.W,Z.SO,L.T,L.bt.gd,L.bt.ta,λXJ mj H18 ev s18 T18 MJ=>?_⟩;have mokJ:=aEt L.bt.wf L.bt.gd ev;refine⟨(5:Int),rfl,by decide,by decide,?_⟩;refine aHe (n:=5) (λi σ H'=>∃ v12 v13 v14 v15 v16 v17:Option V,σ=[some (.ref a),some (.ref D.l),some (.ref D.m0),some (.int D.c),some (.ref D.t),some (.ref D.tw),some (.ref D.x4),some (.ref D.X),some (.ref D.y6),some (.ref D.x9),some (.ref D.xb),some (.ref XJ),v12,v13,v14,v15,v16,v17]/\LF K C CM Pr Cs ns a D H'/\MM CM H' XJ D.x4 mj.b mj.es mj.kn mj.ds) ⟨_,_,_,_,_,_,rfl,L.off s18 T18,MJ⟩ ?_ ?_
  rotate_left
  ·rintro σ H' _;exact kq H'
  rintro i σ H' hi ⟨v12,v13,v14,v15,v16,v17,rfl,L',J'⟩;refine⟨_,rfl,_,rfl,_,_,rfl,rfl,a,ns,3+i,(by show [V.ref a,V.int (3+(0+(i:Int)))]=[V.ref a,V.int ((3+i:Nat):Int)]; rw[show (3:Int)+(0+(i:Int))=((3+i:Nat):Int) by omega]),L'.sa,_,rfl,RW.cellAt ns (3+i),D.l,D.ss,rfl,SqL.of L'.hl,Z.l1,λr13 row H1 s1 _ e1 hrow lrow=>?_⟩;have hrS:∀ z∈row,z∈D.S:=λz hz=>(Z.mS z).mpr (hrow z hz);have shr:hZ row:=λz hz=>jA Z.nm z (hrS z hz)
  have gdr:(row.map V.str).all (cY (wts D.S 1 []))=true:=xBj.mpr λv hv=>by
   obtain⟨y,hy,rfl⟩:=xAp.mp hv;exact (Z.SO.gd y).mpr (hrS y hy)
  have L1:=L'.same s1;refine⟨_,rfl,_,rfl,D.t,r13,D.e,D.d,D.m,D.b,D.ms,row,D.ds,rfl,L1.ht,L1.hD,L1.hM,Z.ap,Z.ln,SqL.of e1,λH2 s2=>⟨_,rfl,_,rfl,D.tw,r13,D.k,row,rfl,(L1.same s2).tw,Z.mh.wf,SqL.of (s2 _ _ e1),λH3 s3=>⟨_,_,rfl,?_⟩⟩⟩;have L3:=(L1.same s2).same s3;have e3:=s3 _ _ (s2 _ _ e1);have J3:=J'.same (s1.trans (s2.trans s3));clear L1 L' J' s1 s2 s3 e1;obtain⟨wd,wt⟩:=sV D.k Z.mh.wf row 0 (xBr _);have ac:∀ m,Ev D.S D.n D.r m->acc m row=aAq (acc D.tm row) (acc D.k.mw row):=λm ev=>L.bt.ac m row ev hrS;have aT:acc D.tm row=(walk D.ds (aZ D.ds D.ms) D.b row).map λz=>decide (z∈D.es):=rfl
  have aK:acc D.k.mw row=(D.k.due 0 row).map λs=>decide (rN s∈D.k.ends):=by
   show (walk D.k.doors D.k.mw.kn (rN 0) row).map _=_;rw[wd,Option.map_map];rfl
  generalize hwv:walk D.ds (aZ D.ds D.ms) D.b row=wv at aT ⊢;generalize hdv:D.k.due 0 row=dv at aK wt ⊢
  have gs:∀ m,Ev D.S D.n D.r m->(walk m.ds m.kn m.b row).isSome=(wv.isSome&&dv.isSome):=λm ev=>by
   have h:=congrArg Option.isSome (ac m ev);rw[aT,aK] at h;unfold acc at h;rw[xFp] at h;rw[h];cases wv <;> cases dv <;> rfl
  have nnV:∀ o:Option Str,(!decide (oV o=V.non))=o.isSome:=λo=>by cases o <;> simp[oV]
  have nnI:∀ o:Option Nat,(!decide (oI o=V.non))=o.isSome:=λo=>by cases o <;> simp[oI]
  refine⟨_,rfl,_,rfl,_,rfl,0,xBr _,D.y6,D.x4,r13,rT D.X D.tm,D.S,row,rfl,L3.rt,trivial,xBr _,(λz hz=>nomatch hz),L3.W,Z.SO,L3.T,Z.mh.mo,L3.M,e3,shr,hrS,λm4 H4 ev4 s4 T4=>?_⟩;obtain rfl:m4=D.tm:=ev4;have L4:=L3.off s4 T4;have n34:=lH L3.T.tb s4;have e4:=n34 _ _ e3 trivial;have J4:=ntM n34 J3;clear L3 e3 J3 n34 s4 T4;refine⟨_,rfl,rfl,rfl,_,rfl,eI (λz=>xAz z ?_) λ_=>?_⟩
  ·rw[nnV];show ¬ (!decide (V.bl (walk D.ds (aZ D.ds D.ms) D.b row).isSome=V.bl wv.isSome))=true;rw[hwv]
   simp
  obtain⟨dX,_,_,_,_,_,M0⟩:=id L4.M;refine⟨_,rfl,D.X,dX,_,rfl,M0.ins,cZ _ _ _ _ _ _ (by decide),_,rfl,D.X,D.x4,r13,D.b,D.es,_,row,D.ds,_,rfl,L4.M,L4.W,SqL.of e4,shr,Z.mh.mo.nm,λH5 s5=>?_⟩;rw[xAu gdr];refine⟨_,rfl,?_,_,rfl,eI (λz=>xAz z ?_) λ_=>?_⟩
  ·rw[hwv];cases wv <;> rfl
  ·rw[hwv]
   simp
  have L5:=L4.same s5;have e5:=s5 _ _ e4;have J5:=J4.same s5;clear L4 e4 J4 s5 M0;refine⟨oV wv,oI dv,rfl,rfl,?_⟩;rw[nnV,nnI];refine⟨_,rfl,_,rfl,_,rfl,D.n,L.bt.le,D.xb,D.x4,r13,D.r,D.S,row,rfl,L5.bt.at_,L5.bt.wf,n4,shR,L5.W,Z.SO,L5.T,L5.bt.gd,L5.bt.ta,e5,shr,hrS,λm6 H6 ev6 s6 T6=>?_⟩;have L6:=L5.off s6 T6;have n56:=lH L5.T.tb s6;have e6:=n56 _ _ e5 trivial;have J6:=ntM n56 J5;clear L5 e5 J5 n56 s6 T6;refine⟨_,rfl,rfl,_,rfl,eI (λz=>xAz z ?_) λ_=>?_⟩
  ·rw[gs m6 ev6]
   simp
  obtain⟨dJ,_,_,_,_,_,M0⟩:=id J6;refine⟨_,rfl,XJ,dJ,_,rfl,M0.ins,cZ _ _ _ _ _ _ (by decide),_,rfl,XJ,D.x4,r13,mj.b,mj.es,mj.kn,row,mj.ds,_,rfl,J6,L6.W,SqL.of e6,shr,mokJ.nm,λH7 s7=>?_⟩;rw[xAu gdr];refine⟨rfl,_,rfl,rfl,_,rfl,eI (λz=>xAz z ?_) λ_=>?_⟩
  ·rw[nnV,gs mj ev]
   simp
  have L7:=L6.same s7;have e7:=s7 _ _ e6;have J7:=J6.same s7;have i7:=s7 _ _ M0.ins;clear L6 e6 J6 s7 M0;refine⟨wv,D.t,D.e,D.d,D.m,D.tw,D.b,D.es,D.k,dv,rfl,rfl,L7.ht,L7.hE,rfl,L7.tw,rfl,?_⟩;refine⟨_,rfl,_,rfl,eI (λhg=>?_) λ_=>⟨_,_,_,_,_,_,rfl,L7,J7⟩⟩;obtain⟨zj,hzj⟩:∃ zj,walk mj.ds mj.kn mj.b row=some zj:=xCi.mp ((gs mj ev).trans hg);have hin:=yC (b:=mj.b) (es:=mj.es) (xBk ..) hzj;have hnj:=xBj.mp mokJ.nm zj hin;refine⟨_,rfl,XJ,dJ,_,rfl,i7,cZ _ _ _ _ _ _ (by decide),_,rfl,XJ,dJ,_,rfl,i7,cZ _ _ _ _ _ _ (by decide),_,rfl,XJ,D.x4,r13,mj.b,mj.es,mj.kn,row,mj.ds,_,rfl,J7,L7.W,SqL.of e7,shr,mokJ.nm,λH8 s8=>?_⟩;rw[xAu gdr,hzj];refine⟨XJ,D.x4,mj.b,zj,mj.es,mj.kn,mj.ds,rfl,J7.same s8,xAn (lY hnj) (by decide),λ_ H9 s9=>?_,λbad=>xAz ⟨hnj,hin⟩ bad⟩;refine⟨_,rfl,rfl,_,rfl,eI (λz=>xAz z ?_) λ_=>⟨_,_,_,_,_,_,rfl,L7.same (s8.trans s9),J7.same (s8.trans s9)⟩⟩;have h:=ac mj ev;rw[aT,aK] at h;unfold acc at h;rw[hzj] at h;cases wv with
  | none=>cases hg
  | some zw=>
   cases dv with
   | none=>cases hg
   | some st=>
    have h':decide (zj∈mj.es)=(decide (zw∈D.es)&&decide (rN st∈D.k.ends)):=xBt h
    have e8:decide (rN st∈D.k.ends)=(!decide (D.k.word="answer")||decide (st=0)):=by
     rw[xDc,xDx,aQp D.k Z.mh.wf (wt st rfl)]
     simp
    rw[h',e8];show ¬ (!decide (V.bl _=V.bl (aEv (some zw) D.es D.k (some st))))=true;simp[aEv,atE,isZ]
end
end
end K35
namespace K35
open PySem L2 Ky PySem.W
theorem aXm {α:Type}{p:List α->Prop}(h:∀ a b c d e f,p [a,b,c,d,e,f]):∀ us:List α,us.length=6->p us
 | [a,b,c,d,e,f],_=>h a b c d e f
theorem aUe {α:Type}{p:List α->Prop}(h:∀ a b c d e,p [a,b,c,d,e]):∀ us:List α,us.length=5->p us
 | [a,b,c,d,e],_=>h a b c d e
def pk8 {α:Type}(a b c d e f g h:α):_root_.Fin 8->α
 | 0=>a | 1=>b | 2=>c | 3=>d | 4=>e | 5=>f | 6=>g | 7=>h
def pkN (a b c d e f g h:Addr):Nat->Addr
 | 0=>a | 1=>b | 2=>c | 3=>d | 4=>e | 5=>f | 6=>g | _=>h
def clW (a b c d:Addr):Why->Addr
 | .noName=>a | .noDeed=>b | .twice=>c | .tooMany=>d
theorem vA {p:_root_.Fin 8->Prop}(a:p 0)(b:p 1)(c:p 2)(d:p 3)(e:p 4)(f:p 5)(g:p 6)(h:p 7):∀ i,p i
 | 0=>a | 1=>b | 2=>c | 3=>d | 4=>e | 5=>f | 6=>g | 7=>h
theorem aXu {p:_root_.Fin 4->Prop}(a:p 0)(b:p 1)(c:p 2)(d:p 3):∀ i,p i
 | 0=>a | 1=>b | 2=>c | 3=>d
def gR (K:xAb)(x:Str)(st:Stmt)(f:Addr)(fd:FuncData):Prop:=nsIn K mainGlobals x=some (some (.ref f))/\Fun K x x st f fd
def dF (K:xAb)(C:Addr)(x q:Str)(st:Stmt)(f:Addr)(fd:FuncData):Prop:=findIn K (.ref C) x=some (some (.ref f))/\Fun K x q st f fd/\isFn K (.ref f)=true
theorem dF.m {K:xAb}{C:Addr}{x q:Str}{st:Stmt}{f:Addr}{fd:FuncData}(h:dF K C x q st f fd):eE K C x f:=⟨h.1,h.2.2,h.2.1.2⟩
theorem bn {K:xAb}{x q:Str}{st:Stmt}{f:Addr}{fd:FuncData}{ps:List Str}(F:Fun K x q st f fd)
  (h:∀ (kV doc pm:Value) (an:Option Addr) (cdv ct:Value) (us:List Value),us.length=ps.length->bindArgs (fnOf x q (aH st) (aG st) (aB st) .none kV doc pm an cdv ct) ⟨us,[]⟩=pure (ps.zip us):=by
   intro _ _ _ _ _ _
   first
    | exact aXn (λ_=>rfl)
    | exact aUg (λ_ _=>rfl)
    | exact aUf (λ_ _ _=>rfl)
    | exact len4 (λ_ _ _ _=>rfl)
    | exact aUe (λ_ _ _ _ _=>rfl)):aX K fd ps []:=F.binds h
theorem all_mk {l:OpenLaw}{w:World}{K:xAb}{h:Heap}{mg:xSO}{fa f1 f2 f3 f4 f5 f6 f7 f8 f9 f10 f11 f12 f13 f14 f15 f16 f17 f18 f19 f20 f21 f22 f23 f24 f25 f26 f27 f28 f29 f30 f31 f32 fm0 fm1 fM0 fM1 fM2 fM3 fM4 fM5 fM6 fM7 fM8 fM9 fV0 fV1 fV2 fV3 fV4 fV5 fV6 fV7 fR fMI fI fi0 fm0_ fi1 fm1_ fi2 fm2_ fi3 fm3_ fi4 fm4_ fi5 fm5_ fi6 fm6_ fi7 fm7_ fb0 fb1 fb2 fb6 fb7 fe0 fe6 fZ C CM CW CT cRu cR Pr Td Te R0 R1 R2 R3 R4 R5 R6 R7 d0 d1 d2 d3 d4 d5:Addr}(X:K.In h)(G:h.Ns mainGlobals mg)(hfa:mg "law"=some (.ref fa))
  {fd1 fd2 fd3 fd4 fd5 fd6 fd7 fd8 fd9 fd10 fd11 fd12 fd13 fd14 fd15 fd16 fd17 fd18 fd19 fd20 fd21 fd22 fd23 fd24 fd25 fd26 fd27 fd28 fd29 fd30 fd31 fd32 fdm0 fdm1 fdM0 fdM1 fdM2 fdM3 fdM4 fdM5 fdM6 fdM7 fdM8 fdM9 fdV0 fdV1 fdV2 fdV3 fdV4 fdV5 fdV6 fdV7 fdi0 fdm0_ fdi1 fdm1_ fdi2 fdm2_ fdi3 fdm3_ fdi4 fdm4_ fdi5 fdm5_ fdi6 fdm6_ fdi7 fdm7_ fdb0 fdb1 fdb2 fdb6 fdb7 fde0 fde6 fdZ:FuncData}{ocR kVR dcR pmR ctR:Value}{odR anR:Option Addr}{slR:xAO}{ocMI kVMI dcMI pmMI ctMI cdMI:Value}{odMI anMI:Option Addr}{slMI:xAO}{ocE ocT:Value}{odE odT:Option Addr}{slE slT:xAO}{nE nT:Nat}{ocI kVI dcI pmI ctI cdI:Value}{odI anI:Option Addr}{slI:xAO}{t0 t1 t2 t3 t4 t5 t6 t7 t8:Tok}
  (a1:gR K "_law_mixed" tL f1 fd1)
  (a2:gR K "_law_cell_at" aIy f2 fd2)
  (a3:gR K "is_name" oZ f3 fd3)
  (a4:gR K "refuse_names" wX f4 fd4)
  (a5:gR K "weights_of" tJ f5 fd5)
  (a6:gR K "marks_of" aBo f6 fd6)
  (a7:gR K "_law_names_by" lO f7 fd7)
  (a8:gR K "_law_deeds_by" pB f8 fd8)
  (a9:gR K "named_rooms" aBn f9 fd9)
  (a10:gR K "refuse_rooms" qK f10 fd10)
  (a11:gR K "leads_of" aBp f11 fd11)
  (a12:gR K "begin_of" pC f12 fd12)
  (a13:gR K "far_of" wY f13 fd13)
  (a14:gR K "rows_to" wW f14 fd14)
  (a15:gR K "come_to" wZ f15 fd15)
  (a16:gR K "known_of" tM f16 fd16)
  (a17:gR K "made_one" pA f17 fd17)
  (a18:gR K "all_at_ends" pD f18 fd18)
  (a19:gR K "is_times" aBl f19 fd19)
  (a20:gR K "keeps" aBq f20 fd20)
  (a21:gR K "_law_rooms_by" oY f21 fd21)
  (a22:gR K "_law_machine_by" iD f22 fd22)
  (a23:gR K "_law_rule_of" wV f23 fd23)
  (a24:gR K "_law_about" xA f24 fd24)
  (a25:gR K "_law_next" aIw f25 fd25)
  (a26:gR K "_law_drawn" aBr f26 fd26)
  (a27:gR K "_law_two_deeds" aQx f27 fd27)
  (a28:gR K "_law_row" aNe f28 fd28)
  (a29:gR K "_law_walked" sK f29 fd29)
  (a30:gR K "_law_counted" tN f30 fd30)
  (a31:gR K "_law_named_anew" gS f31 fd31)
  (a32:gR K "law" aQy f32 fd32)
  (aC:nsIn K mainGlobals "Deeds"=some (some (.ref C)))
  (qm0:dF K C "has" "Deeds.has" aNf fm0 fdm0)
  (qm1:dF K C "require" "Deeds.require" tK fm1 fdm1)
  (aCM:nsIn K mainGlobals "Machine"=some (some (.ref CM)))
  (qM0:dF K CM "deeds" "Machine.deeds" aCw fM0 fdM0)
  (qM1:dF K CM "begin" "Machine.begin" aCx fM1 fdM1)
  (qM2:dF K CM "knows" "Machine.knows" aCu fM2 fdM2)
  (qM3:dF K CM "goes" "Machine.goes" aLh fM3 fdM3)
  (qM4:dF K CM "require_room" "Machine.require_room" uB fM4 fdM4)
  (qM5:dF K CM "is_end" "Machine.is_end" aCv fM5 fdM5)
  (qM6:dF K CM "behind" "Machine.behind" xO fM6 fdM6)
  (qM7:dF K CM "rooms" "Machine.rooms" aCt fM7 fdM7)
  (qM8:dF K CM "ends" "Machine.ends" aLi fM8 fdM8)
  (qM9:dF K CM "to" "Machine.to" mTo fM9 fdM9)
  (aCW:nsIn K mainGlobals "Woven"=some (some (.ref CW)))
  (qV0:dF K CW "deeds" "Woven.deeds" aAz fV0 fdV0)
  (qV1:dF K CW "begin" "Woven.begin" aBa fV1 fdV1)
  (qV2:dF K CW "knows" "Woven.knows" aAx fV2 fdV2)
  (qV3:dF K CW "at" "Woven.at" wAt fV3 fdV3)
  (qV4:dF K CW "to" "Woven.to" wTo fV4 fdV4)
  (qV5:dF K CW "ways" "Woven.ways" aDq fV5 fdV5)
  (qV6:dF K CW "__init__" "Woven.__init__" aHx fV6 fdV6)
  (qV7:dF K CW "is_end" "Woven.is_end" aAy fV7 fdV7)
  (qR:eE K CW "rooms" fR)
  (lR:K.lookup fR=some ⟨ocR,odR,.func (fnOf "rooms" "Woven.rooms" (aH iA) (aG iA) (aB iA) .none kVR dcR pmR anR (.ref cR) ctR),slR⟩)
  (cR_:codeIn K (.ref cR) "Woven.rooms"=true)
  (hh2:codeHdIn K cR Pr=true)
  (WC:uS K CW)
  (mkV:makesIn K CW=true)
  (kpV:keepIn K (.ref CW)=true)
  (MMk:Mk K CM fMI)
  (lMI:K.lookup fMI=some ⟨ocMI,odMI,.func (fnOf "__init__" "Machine.__init__" (aH iM) (aG iM) (aB iM) (.ref Te) kVMI dcMI pmMI anMI cdMI ctMI),slMI⟩)
  (cMI:codeIn K cdMI "Machine.__init__"=true)
  (kMI:keepIn K (.ref fMI)=true)
  (lE:K.lookup Te=some ⟨ocE,odE,.seq #[.none] nE,slE⟩)
  (MC:kJ K CM)
  (MI:Mk K C fI)
  (lI:K.lookup fI=some ⟨ocI,odI,.func (fnOf "__init__" "Deeds.__init__" (aH jB) (aG jB) (aB jB) (.ref Td) kVI dcI pmI anI cdI ctI),slI⟩)
  (cI:codeIn K cdI "Deeds.__init__"=true)
  (kI:keepIn K (.ref fI)=true)
  (lT:K.lookup Td=some ⟨ocT,odT,.seq #[.none] nT,slT⟩)
  (DC:yB K C)
  (ar0:nsIn K mainGlobals "Never"=some (some (.ref R0)))
  (qi0:dF K R0 "__init__" "Never.__init__" aLb fi0 fdi0)
  (qm0_:dF K R0 "machine" "Never.machine" aLa fm0_ fdm0_)
  (mk0:makesIn K R0=true)
  (kp0:keepIn K (.ref R0)=true)
  (rc0:jM K R0)
  (ar1:nsIn K mainGlobals "Most"=some (some (.ref R1)))
  (qi1:dF K R1 "__init__" "Most.__init__" aKw fi1 fdi1)
  (qm1_:dF K R1 "machine" "Most.machine" zO fm1_ fdm1_)
  (mk1:makesIn K R1=true)
  (kp1:keepIn K (.ref R1)=true)
  (rc1:jM K R1)
  (ar2:nsIn K mainGlobals "Ahead"=some (some (.ref R2)))
  (qi2:dF K R2 "__init__" "Ahead.__init__" aMh fi2 fdi2)
  (qm2_:dF K R2 "machine" "Ahead.machine" aMg fm2_ fdm2_)
  (mk2:makesIn K R2=true)
  (kp2:keepIn K (.ref R2)=true)
  (rc2:jM K R2)
  (ar3:nsIn K mainGlobals "Turns"=some (some (.ref R3)))
  (qi3:dF K R3 "__init__" "Turns.__init__" aIb fi3 fdi3)
  (qm3_:dF K R3 "machine" "Turns.machine" aIa fm3_ fdm3_)
  (mk3:makesIn K R3=true)
  (kp3:keepIn K (.ref R3)=true)
  (rc3:jM K R3)
  (ar4:nsIn K mainGlobals "Hold"=some (some (.ref R4)))
  (qi4:dF K R4 "__init__" "Hold.__init__" aLq fi4 fdi4)
  (qm4_:dF K R4 "machine" "Hold.machine" aLp fm4_ fdm4_)
  (mk4:makesIn K R4=true)
  (kp4:keepIn K (.ref R4)=true)
  (rc4:jM K R4)
  (ar5:nsIn K mainGlobals "Answer"=some (some (.ref R5)))
  (qi5:dF K R5 "__init__" "Answer.__init__" aDl fi5 fdi5)
  (qm5_:dF K R5 "machine" "Answer.machine" aDk fm5_ fdm5_)
  (mk5:makesIn K R5=true)
  (kp5:keepIn K (.ref R5)=true)
  (rc5:jM K R5)
  (ar6:nsIn K mainGlobals "All"=some (some (.ref R6)))
  (qi6:dF K R6 "__init__" "All.__init__" aLm fi6 fdi6)
  (qm6_:dF K R6 "machine" "All.machine" aEn fm6_ fdm6_)
  (mk6:makesIn K R6=true)
  (kp6:keepIn K (.ref R6)=true)
  (ar7:nsIn K mainGlobals "Told"=some (some (.ref R7)))
  (qi7:dF K R7 "__init__" "Told.__init__" aLx fi7 fdi7)
  (qm7_:dF K R7 "machine" "Told.machine" aLw fm7_ fdm7_)
  (mk7:makesIn K R7=true)
  (kp7:keepIn K (.ref R7)=true)
  (clL:Cls K R6)
  (naL:dD K R6 "rules")
  (IC:aSj K R7)
  (naT:dD K R7 "machine_itself")
  (NC:aAt K CM)
  (aRu:nsIn K mainGlobals "Rule"=some (some (.ref cRu)))
  (kit:kitOne K (.ref R7) (.ref cRu)=some true)
  (qb0:dF K R0 "about" "Never.about" aCp fb0 fdb0)
  (qb1:dF K R1 "about" "Most.about" aCn fb1 fdb1)
  (qb2:dF K R2 "about" "OfTwo.about" qG fb2 fdb2)
  (qb3:dF K R3 "about" "OfTwo.about" qG fb2 fdb2)
  (qb4:dF K R4 "about" "OfTwo.about" qG fb2 fdb2)
  (qb5:dF K R5 "about" "OfTwo.about" qG fb2 fdb2)
  (qb6:dF K R6 "about" "All.about" xP fb6 fdb6)
  (qb7:dF K R7 "about" "Rule.about" xD fb7 fdb7)
  (qe0:dF K R0 "deep" "Rule.deep" pG fe0 fde0)
  (qe1:dF K R1 "deep" "Rule.deep" pG fe0 fde0)
  (qe2:dF K R2 "deep" "Rule.deep" pG fe0 fde0)
  (qe3:dF K R3 "deep" "Rule.deep" pG fe0 fde0)
  (qe4:dF K R4 "deep" "Rule.deep" pG fe0 fde0)
  (qe5:dF K R5 "deep" "Rule.deep" pG fe0 fde0)
  (qe7:dF K R7 "deep" "Rule.deep" pG fe0 fde0)
  (qe6:dF K R6 "deep" "All.deep" aAc fe6 fde6)
  (aT:nsIn K mainGlobals "OfTwo"=some (some (.ref CT)))
  (qZ:dF K CT "__init__" "OfTwo.__init__" aIf fZ fdZ)
  (sT:specialIn K (.ref CT) "__getattribute__" = some (some (.builtin "type.__getattribute__")))
  (rT:readsIn K CT (.type "type")=true)
  (fT_:findCls K (.ref CT) (.type "type") "__init__" = some (.val (.ref fZ)))
  (hT:handedIn (.ref fZ)=true)
  (e0:nsIn K mainGlobals "NoName"=some (some (.ref d0)))
  (e1:nsIn K mainGlobals "NoDeed"=some (some (.ref d1)))
  (e2:nsIn K mainGlobals "NoRoom"=some (some (.ref d2)))
  (e3:nsIn K mainGlobals "TwiceTold"=some (some (.ref d3)))
  (e4:nsIn K mainGlobals "TooMany"=some (some (.ref d4)))
  (e5:nsIn K mainGlobals "NoRule"=some (some (.ref d5)))
  (xa0:nA K d0)
  (xa1:nA K d1)
  (xa2:nA K d2)
  (xa3:nA K d3)
  (xa4:nA K d4)
  (xa5:nA K d5)
  (cst0:nsIn K mainGlobals "LETTERS"=some (some (.str jT t0)))
  (cst1:nsIn K mainGlobals "FIGURES"=some (some (.str lF t1)))
  (cst2:nsIn K mainGlobals "MOST_SIGNS"=some (some (.int 8 t2)))
  (cst3:nsIn K mainGlobals "MOST_DEEDS"=some (some (.int 12 t3)))
  (cst4:nsIn K mainGlobals "MOST_ROOMS"=some (some (.int 60 t4)))
  (cst5:nsIn K mainGlobals "MOST_WOVEN"=some (some (.int 7 t5)))
  (cst6:nsIn K mainGlobals "MOST_TIMES"=some (some (.int 6 t6)))
  (cst7:nsIn K mainGlobals "MOST_RULES"=some (some (.int 4 t7)))
  (cst8:nsIn K mainGlobals "MOST_DEEP"=some (some (.int 3 t8)))
  (z0:nsIn K mainGlobals "isinstance"=some none)
  (z1:nsIn K mainGlobals "str"=some none)
  (z2:nsIn K mainGlobals "bool"=some none)
  (z3:nsIn K mainGlobals "int"=some none)
  (z4:nsIn K mainGlobals "len"=some none)
  (z5:nsIn K mainGlobals "all"=some none)
  (z6:nsIn K mainGlobals "range"=some none)
  (z7:nsIn K mainGlobals "sorted"=some none)
  (z8:nsIn K mainGlobals "list"=some none)
  (z9:nsIn K mainGlobals "enumerate"=some none)
  (z10:nsIn K mainGlobals "tuple"=some none)
  (z11:nsIn K mainGlobals "zip"=some none)
  (z12:nsIn K mainGlobals "max"=some none) :
  ∃ fd:FuncData,(∀ (s:Shared) (v:Value),BindsTo s fd ⟨[v],[]⟩ [("_law_script",v)])/\∀ base:Heap,K.In base->base.Ns mainGlobals mg->qD mg base->aQ l.prog w K mg base CX0 15 fa fd ["_law_script"] (aDz K Pr):=by
 obtain⟨a1,F1⟩:=a1;obtain⟨a2,F2⟩:=a2;obtain⟨a3,F3⟩:=a3;obtain⟨a4,F4⟩:=a4;obtain⟨a5,F5⟩:=a5;obtain⟨a6,F6⟩:=a6;obtain⟨a7,F7⟩:=a7;obtain⟨a8,F8⟩:=a8;obtain⟨a9,F9⟩:=a9;obtain⟨a10,F10⟩:=a10;obtain⟨a11,F11⟩:=a11;obtain⟨a12,F12⟩:=a12;obtain⟨a13,F13⟩:=a13;obtain⟨a14,F14⟩:=a14;obtain⟨a15,F15⟩:=a15;obtain⟨a16,F16⟩:=a16;obtain⟨a17,F17⟩:=a17;obtain⟨a18,F18⟩:=a18;obtain⟨a19,F19⟩:=a19;obtain⟨a20,F20⟩:=a20;obtain⟨a21,F21⟩:=a21;obtain⟨a22,F22⟩:=a22;obtain⟨a23,F23⟩:=a23;obtain⟨a24,F24⟩:=a24;obtain⟨a25,F25⟩:=a25;obtain⟨a26,F26⟩:=a26;obtain⟨a27,F27⟩:=a27;obtain⟨a28,F28⟩:=a28;obtain⟨a29,F29⟩:=a29;obtain⟨a30,F30⟩:=a30;obtain⟨a31,F31⟩:=a31;obtain⟨a32,F32⟩:=a32;have Fm0:=qm0.2.1;have Fm1:=qm1.2.1;have FM0:=qM0.2.1;have FM1:=qM1.2.1;have FM2:=qM2.2.1;have FM3:=qM3.2.1;have FM4:=qM4.2.1;have FM5:=qM5.2.1;have FM6:=qM6.2.1;have FM7:=qM7.2.1;have FM8:=qM8.2.1;have FM9:=qM9.2.1;have FV0:=qV0.2.1;have FV1:=qV1.2.1;have FV2:=qV2.2.1;have FV3:=qV3.2.1;have FV4:=qV4.2.1;have FV5:=qV5.2.1;have FV6:=qV6.2.1;have FV7:=qV7.2.1;have e:=hfa.symm.trans (xAh X G a32);cases e;have T:Txt K mg:=⟨⟨_,xAh X G cst0⟩,⟨_,xAh X G cst1⟩,⟨_,xAh X G cst2⟩,⟨_,xAh X G cst3⟩,(xBw X G z0),(xBw X G z1),(xBw X G z2),(xBw X G z3),(xBw X G z4),(xBw X G z5),(xBw X G z6),(xBw X G z7),(xBw X G z8),(xBw X G z9)⟩;have FI:aMo K "__init__" "Deeds.__init__" jB fI _:=⟨⟨_,_,_,_,_,_,_,_,_,_,rfl,lI,cI⟩,kI⟩
 have bI:aX K _ ["self","names","free"] []:=λs us KX hl=>by
  rw[xBo] at hl ⊢;revert us;exact aUf λ_ _ _=>BindsTo.of_defaults (fd:=fnOf "__init__" "Deeds.__init__" (aH jB) (aG jB) (aB jB) (.ref Td) kVI dcI pmI anI cdI ctI) rfl (KX _ _ lT) rfl rfl rfl
 have bI1:aX K (fnOf "__init__" "Deeds.__init__" (aH jB) (aG jB) (aB jB) (.ref Td) kVI dcI pmI anI cdI ctI) ["self","names","free"] [.none]:=λs us KX hl=>by
  have hl':us.length=2:=by
   have:us.length+1=3:=by simpa using hl
   omega
  clear hl;revert us;exact aUg λ_ _=>BindsTo.of_defaults (fd:=fnOf "__init__" "Deeds.__init__" (aH jB) (aG jB) (aB jB) (.ref Td) kVI dcI pmI anI cdI ctI) rfl (KX _ _ lT) rfl rfl rfl
 have FMI:aMo K "__init__" "Machine.__init__" iM fMI _:=⟨⟨_,_,_,_,_,_,_,_,_,_,rfl,lMI,cMI⟩,kMI⟩
 have bMI:aX K _ ["self","deeds","begin","ends","doors","more"] []:=λs us KX hl=>by
  rw[xBo] at hl ⊢;revert us;exact aXm λ_ _ _ _ _ _=>BindsTo.of_defaults (fd:=fnOf "__init__" "Machine.__init__" (aH iM) (aG iM) (aB iM) (.ref Te) kVMI dcMI pmMI anMI cdMI ctMI) rfl (KX _ _ lE) rfl rfl rfl
 have bMI1:aX K (fnOf "__init__" "Machine.__init__" (aH iM) (aG iM) (aB iM) (.ref Te) kVMI dcMI pmMI anMI cdMI ctMI) ["self","deeds","begin","ends","doors","more"] [.none]:=λs us KX hl=>by
  have hl':us.length=5:=by
   have:us.length+1=6:=by simpa using hl
   omega
  clear hl;revert us;exact aUe λ_ _ _ _ _=>BindsTo.of_defaults (fd:=fnOf "__init__" "Machine.__init__" (aH iM) (aG iM) (aB iM) (.ref Te) kVMI dcMI pmMI anMI cdMI ctMI) rfl (KX _ _ lE) rfl rfl rfl
 have Ex:Exc K mg (clW d0 d1 d3 d4):=⟨xAh X G e0,xAh X G e1,xAh X G e3,xAh X G e4,λk=>match k with | .noName=>xa0 | .noDeed=>xa1 | .twice=>xa3 | .tooMany=>xa4⟩
 have WMk:Mk K CW fV6:=⟨mkV,qV6.1,qV6.2.2,kpV⟩;refine⟨fd32,λs v=>?_,λbase KB GB0 bm=>?_⟩
 rotate_left
 ·have GQ:=aCc (P:=l.prog) (w:=w) (mg:=mg) (base:=base) Fm1 T Ex DC F3 (bn F3) (xAh X G a3) Fm0 (bn Fm0) qm0.m;have GK:=aKb (P:=l.prog) (w:=w) (mg:=mg) (base:=base) F6 T;have GC:=aNy (P:=l.prog) (w:=w) (mg:=mg) (base:=base) F2 T F1 (bn F1) (xAh X G a1);have zT:mg "tuple"=none:=(xBw X G z10);have zZ:mg "zip"=none:=(xBw X G z11);have GB:=aGm (P:=l.prog) (w:=w) (mg:=mg) (base:=base) FM1 MC;have GKn:=aGj (P:=l.prog) (w:=w) (mg:=mg) (base:=base) FM2 T MC;have GGo:=aKd (P:=l.prog) (w:=w) (mg:=mg) (base:=base) FM3 MC;have GMD:=aGl (P:=l.prog) (w:=w) (mg:=mg) (base:=base) FM0 MC;have GBO:=aCj (P:=l.prog) (w:=w) (mg:=mg) (base:=base) F12 zT MC GB (bn FM1) qM1.m;have GFO:=aKm (P:=l.prog) (w:=w) (mg:=mg) (base:=base) F13 zT zZ MC GGo (bn FM3) qM3.m;have GKO:=aCg (P:=l.prog) (w:=w) (mg:=mg) (base:=base) F16 MC GKn (bn FM2) qM2.m GK F6.2 (bn F6) (xAh X G a6);have GWI:aQ l.prog w K mg base (CXE l.prog w) 3 fV6 _ ["self","machines"] (wO CM CW d4):=aJq FV6 T WC ⟨_,xAh X G cst5⟩ (xAh X G e4) xa4 GKO F16.2 (bn F16) (xAh X G a16);have GWD:=aFz (P:=l.prog) (w:=w) (mg:=mg) (base:=base) FV0 WC MC GMD (bn FM0) qM0.m;have GWB:=aGa (P:=l.prog) (w:=w) (mg:=mg) (base:=base) FV1 WC GBO F12.2 (bn F12) (xAh X G a12);have GWK:=aFx (P:=l.prog) (w:=w) (mg:=mg) (base:=base) (CM:=CM) FV2 T WC;have GWT:aQ l.prog w K mg base (CXE l.prog w) 4 fV4 _ ["self","room","deed"] (aDv K C CM CW d1):=aRl (cl:=clW d0 d1 d3 d4) FV4 DC WC GWD (bn FV0) qV0.m GQ (bn Fm1) qm1.m GFO F13.2 (bn F13) (xAh X G a13);have GWA:=aRm (P:=l.prog) (w:=w) (mg:=mg) (base:=base) FV3 WC GWK (bn FV2) qV2.m GWT (bn FV4) qV4.m;have GWY:=aJp (P:=l.prog) (w:=w) (mg:=mg) (base:=base) FV5 WC GWA (bn FV3) qV3.m GWT (bn FV4) qV4.m;have GRT:=aGd (P:=l.prog) (w:=w) (mg:=mg) (base:=base) (kd:=7) (cT:=d4) F14 T (xAh X G e4) xa4;have GCT:=aGo (P:=l.prog) (w:=w) (mg:=mg) (base:=base) (kd:=7) (cT:=d4) F15 T GRT F14.2 (bn F14) (xAh X G a14);have GWR:=aFw (P:=l.prog) (w:=w) (mg:=mg) (base:=base) (C:=C) (CM:=CM) (CW:=CW) (cT:=d4) (Pr:=Pr) lR cR_ hh2 bm WC ⟨_,xAh X G cst4⟩ GWB (bn FV1) qV1.m GWY (bn FV5) qV5.m GCT F15.2 (bn F15) (xAh X G a15);have GRq:=aKc (P:=l.prog) (w:=w) (mg:=mg) (base:=base) FM4 T MC (xAh X G e2) xa2 F3 (bn F3) (xAh X G a3);have GEd:=aCe (P:=l.prog) (w:=w) (mg:=mg) (base:=base) FM5 MC GRq (bn FM4) qM4.m;have GAE:=aCk (P:=l.prog) (w:=w) (mg:=mg) (base:=base) F18 T zZ MC GEd (bn FM5) qM5.m;have GWE:=aFy (P:=l.prog) (w:=w) (mg:=mg) (base:=base) FV7 WC GAE F18.2 (bn F18) (xAh X G a18);have GMI0:=aGk (P:=l.prog) (w:=w) (mg:=mg) (base:=base) (cl:=clW d0 d1 d3 d4) FMI T DC MC ⟨_,xAh X G cst4⟩ (aJy F9) F9.2 (bn F9) (xAh X G a9) (zN F10 T Ex F3 (bn F3) (xAh X G a3)) F10.2 (bn F10) (xAh X G a10) (aKf F11) F11.2 (bn F11) (xAh X G a11) GK F6.2 (bn F6) (xAh X G a6) GQ (bn Fm1) qm1.m;have GMI:aQ l.prog w K mg base (CXE l.prog w) 4 fMI _ ["self","deeds","begin","ends","doors","more"] (oX K C CM):=aQ.weaker GMI0 λ_ _ _ _ h=>oX.toD h;have FR:=fun_mk (st:=iA) lR cR_ qR.kp;have GMO:=aNv (P:=l.prog) (w:=w) (mg:=mg) (base:=base) (C:=C) (CM:=CM) (CW:=CW) (cT:=d4) (Pr:=Pr) F17 T WC GWR (bn FR) qR GWY (bn FV5) qV5.m GWE (bn FV7) qV7.m GWD (bn FV0) qV0.m GWB (bn FV1) qV1.m GWK (bn FV2) qV2.m GMI MMk bMI (xAh X G aCM);have MK:MkC l.prog w K mg base C CM fMI (clW d0 d1 d3 d4) _:=⟨GMI0,MMk,xAh X G aCM,bMI,bMI1⟩;have DE:DeC l.prog w K mg base C fI (clW d0 d1 d3 d4) _:=⟨aNx FI T DC (aGe F4 T Ex F3 (bn F3) (xAh X G a3)) F4.2 (bn F4) (xAh X G a4) (aCa F5 T) F5.2 (bn F5) (xAh X G a5) GK F6.2 (bn F6) (xAh X G a6) GQ (bn Fm1) qm1.m,MI,xAh X G aC,bI,bI1⟩;have Ma:Fam K (pkN R0 R1 R2 R3 R4 R5 R6 R7) "about" ["self"] (pk8 fb0 fb1 fb2 fb2 fb2 fb2 fb6 fb7) (pk8 fdb0 fdb1 fdb2 fdb2 fdb2 fdb2 fdb6 fdb7):=⟨vA rc0.cl rc1.cl rc2.cl rc3.cl rc4.cl rc5.cl clL IC.cl,vA qb0.m qb1.m qb2.m qb3.m qb4.m qb5.m qb6.m qb7.m,vA (bn qb0.2.1) (bn qb1.2.1) (bn qb2.2.1) (bn qb2.2.1) (bn qb2.2.1) (bn qb2.2.1) (bn qb6.2.1) (bn qb7.2.1)⟩;have Me:Fam K (pkN R0 R1 R2 R3 R4 R5 R6 R7) "deep" ["self"] (pk8 fe0 fe0 fe0 fe0 fe0 fe0 fe6 fe0) (pk8 fde0 fde0 fde0 fde0 fde0 fde0 fde6 fde0):=⟨Ma.c,vA qe0.m qe1.m qe2.m qe3.m qe4.m qe5.m qe6.m qe7.m,vA (bn qe0.2.1) (bn qe0.2.1) (bn qe0.2.1) (bn qe0.2.1) (bn qe0.2.1) (bn qe0.2.1) (bn qe6.2.1) (bn qe0.2.1)⟩;have Mm:Fam K (pkN R0 R1 R2 R3 R4 R5 R6 R7) "machine" ["self","deeds"] (pk8 fm0_ fm1_ fm2_ fm3_ fm4_ fm5_ fm6_ fm7_) (pk8 fdm0_ fdm1_ fdm2_ fdm3_ fdm4_ fdm5_ fdm6_ fdm7_):=⟨Ma.c,vA qm0_.m qm1_.m qm2_.m qm3_.m qm4_.m qm5_.m qm6_.m qm7_.m,vA (bn qm0_.2.1) (bn qm1_.2.1) (bn qm2_.2.1) (bn qm3_.2.1) (bn qm4_.2.1) (bn qm5_.2.1) (bn qm6_.2.1) (bn qm7_.2.1)⟩;have RCv:∀ v:_root_.Fin 4,jM K (pkN R0 R1 R2 R3 R4 R5 R6 R7 (2+v)):=aXu rc2 rc3 rc4 rc5;have Gb0:=aGh (P:=l.prog) (w:=w) (mg:=mg) (base:=base) (Cs:=pkN R0 R1 R2 R3 R4 R5 R6 R7) qb0.2.1 rc0;have Gb1:=aGg (P:=l.prog) (w:=w) (mg:=mg) (base:=base) (Cs:=pkN R0 R1 R2 R3 R4 R5 R6 R7) qb1.2.1 rc1;have Gb2:=λv=>aGb (P:=l.prog) (w:=w) (mg:=mg) (base:=base) (Cs:=pkN R0 R1 R2 R3 R4 R5 R6 R7) v qb2.2.1 (RCv v);have GA:=aSh (P:=l.prog) (w:=w) (mg:=mg) (base:=base) (Cs:=pkN R0 R1 R2 R3 R4 R5 R6 R7) (fs:=pk8 fb0 fb1 fb2 fb2 fb2 fb2 fb6 fb7) (fds:=pk8 fdb0 fdb1 fdb2 fdb2 fdb2 fdb2 fdb6 fdb7) (vA (λ_=>Gb0) (λ_=>Gb1) (λ_=>Gb2 0) (λ_=>Gb2 1) (λ_=>Gb2 2) (λ_=>Gb2 3) (λh=>xAz h (by decide)) (λh=>xAz h (by decide))) qb6.2.1 qb7.2.1 naL Ma;have Ge0:=aJv (P:=l.prog) (w:=w) (mg:=mg) (base:=base) qe0.2.1;have GD:=aUq (P:=l.prog) (w:=w) (mg:=mg) (base:=base) (Cs:=pkN R0 R1 R2 R3 R4 R5 R6 R7) (fs:=pk8 fe0 fe0 fe0 fe0 fe0 fe0 fe6 fe0) (fds:=pk8 fde0 fde0 fde0 fde0 fde0 fde0 fde6 fde0) (vA (λ_=>Ge0) (λ_=>Ge0) (λ_=>Ge0) (λ_=>Ge0) (λ_=>Ge0) (λ_=>Ge0) (λh=>xAz rfl h) (λ_=>Ge0)) qe6.2.1 naL (xBw X G z12) Me;have Gt:aQ l.prog w K mg base (CXE l.prog w) 1 fm7_ fdm7_ ["self","deeds"] (sI (pkN R0 R1 R2 R3 R4 R5 R6 R7)):=aKn qm7_.2.1 IC.cl naT
  have GM:=aUc (P:=l.prog) (w:=w) (mg:=mg) (base:=base) (Cs:=pkN R0 R1 R2 R3 R4 R5 R6 R7) (fs:=pk8 fm0_ fm1_ fm2_ fm3_ fm4_ fm5_ fm6_ fm7_) (fds:=pk8 fdm0_ fdm1_ fdm2_ fdm3_ fdm4_ fdm5_ fdm6_ fdm7_) (C:=C) (CM:=CM) (Pr:=Pr) (cl:=clW d0 d1 d3 d4)
   (vA (λ_=>aJz qm0_.2.1 rc0 MK Gb0 (bn qb0.2.1) qb0.m) (λ_=>aJw qm1_.2.1 T rc1 MK Gb1 (bn qb1.2.1) qb1.m) (λ_=>aKq qm2_.2.1 rc2 MK) (λ_=>aJr qm3_.2.1 rc3 MK) (λ_=>aKk qm4_.2.1 rc4 MK) (λ_=>aGq qm5_.2.1 rc5 MK) (λh=>xAz h (by decide)) (λh=>xAz h (by decide))) Gt
   λn Gn=>aKg (fs:=pk8 fm0_ fm1_ fm2_ fm3_ fm4_ fm5_ fm6_ fm7_) (fds:=pk8 fdm0_ fdm1_ fdm2_ fdm3_ fdm4_ fdm5_ fdm6_ fdm7_) qm6_.2.1 DC naL MK Ma GA GQ (bn Fm1) qm1.m GWI WMk (xAh X G aCW) (bn FV6) GMO F17.2 (bn F17) (xAh X G a17) Mm Gn
  have GBh:=aCf (P:=l.prog) (w:=w) (mg:=mg) (base:=base) (cl:=clW d0 d1 d3 d4) FM6 T DC MC GGo (bn FM3) qM3.m GQ (bn Fm1) qm1.m;have GKe:=λn=>aKj (P:=l.prog) (w:=w) (mg:=mg) (base:=base) (cl:=clW d0 d1 d3 d4) (Pr:=Pr) F20 MC Mm GM GBh (bn FM6) qM6.m n;have GT:=aJt (P:=l.prog) (w:=w) (mg:=mg) (base:=base) F19 T ⟨_,xAh X G cst6⟩;have mNR:=xAh X G e5;have W2:aMj l.prog w K mg base CT fZ d5 fdZ:=⟨xAh X G aT,sT,rT,fT_,hT,qZ.2.1.2,aJu qZ.2.1 mNR xa5,bn qZ.2.1⟩;have MO:CkC l.prog w K mg base (CXE l.prog w) 2 "Most" R1 fi1 fdi1 ["self","deed","many"] (wQ R1 d5):=⟨aJx qi1.2.1 rc1 mNR xa5 GT F19.2 (bn F19) (xAh X G a19),⟨mk1,qi1.1,qi1.2.2,kp1⟩,bn qi1.2.1,xAh X G ar1⟩
  have GRO:=aGc (P:=l.prog) (w:=w) (mg:=mg) (base:=base) (Cs:=pkN R0 R1 R2 R3 R4 R5 R6 R7) (cN:=d5) F23 RCv ⟨aKa qi0.2.1 rc0,⟨mk0,qi0.1,qi0.2.2,kp0⟩,bn qi0.2.1,xAh X G ar0⟩ MO
   ⟨aKr qi2.2.1 W2,⟨mk2,qi2.1,qi2.2.2,kp2⟩,bn qi2.2.1,xAh X G ar2⟩ ⟨aJs qi3.2.1 W2,⟨mk3,qi3.1,qi3.2.2,kp3⟩,bn qi3.2.1,xAh X G ar3⟩ ⟨aKl qi4.2.1 W2,⟨mk4,qi4.1,qi4.2.2,kp4⟩,bn qi4.2.1,xAh X G ar4⟩ ⟨aGr qi5.2.1 W2,⟨mk5,qi5.1,qi5.2.2,kp5⟩,bn qi5.2.1,xAh X G ar5⟩
  have GAI:=λn=>aKh (P:=l.prog) (w:=w) (mg:=mg) (base:=base) (Cs:=pkN R0 R1 R2 R3 R4 R5 R6 R7) (cT:=d4) qi6.2.1 T naL ⟨_,xAh X G cst7⟩ ⟨_,xAh X G cst8⟩ (xAh X G e4) xa4 Me GD n;have kAl:Mk K R6 fi6:=⟨mk6,qi6.1,qi6.2.2,kp6⟩;have AI:∀ n,CkC l.prog w K mg base (CXE l.prog w) (3+n) "All" R6 fi6 fdi6 ["self","rules"] (wT (pkN R0 R1 R2 R3 R4 R5 R6 R7) d4 n):=λn=>⟨GAI n,kAl,bn qi6.2.1,xAh X G ar6⟩;have TO:CkC l.prog w K mg base CX0 1 "Told" R7 fi7 fdi7 ["self","machine"] (wP (pkN R0 R1 R2 R3 R4 R5 R6 R7)):=⟨aKo qi7.2.1 IC.cl naT,⟨mk7,qi7.1,qi7.2.2,kp7⟩,bn qi7.2.1,xAh X G ar7⟩;have GRo:=aGi (P:=l.prog) (w:=w) (mg:=mg) (base:=base) FM7 T MC;have GEn:=aKe (P:=l.prog) (w:=w) (mg:=mg) (base:=base) FM8 T MC;have GTo:=aNw (P:=l.prog) (w:=w) (mg:=mg) (base:=base) (cl:=clW d0 d1 d3 d4) FM9 T DC MC GRq (bn FM4) qM4.m GQ (bn Fm1) qm1.m;have GNx:=aNu (P:=l.prog) (w:=w) (mg:=mg) (base:=base) F25 T (aGp F24) F24.2 (bn F24) (xAh X G a24);have GMB:=xH (P:=l.prog) (w:=w) (mg:=mg) (base:=base) F22 T (pL F1) F1.2 (bn F1) (xAh X G a1) (aCb F21 T) F21.2 (bn F21) (xAh X G a21);have cc:∀ {n:Nat}{x:Str}{st:Stmt}{f:Addr}{fd:FuncData}{ps:List Str}{sp:Sp},aQ l.prog w K mg base CX0 n f fd ps sp->Fun K x x st f fd->aX K fd ps []->mg x=some (.ref f)->CaC l.prog w K mg base n x f fd ps sp:=λG F b m=>⟨G,F.2,b,m⟩
  exact aRn (cR:=d2) F32 T MC NC IC (xAh X G aRu) kit (cc GC F2 (bn F2) (xAh X G a2)) (cc (aNs F27 T (aCh F8 T F1 (bn F1) (xAh X G a1) F7 (bn F7) (xAh X G a7)) F8.2 (bn F8) (xAh X G a8)) F27 (bn F27) (xAh X G a27)) (cc (GMB) F22 (bn F22) (xAh X G a22))
   (cc (aKp F26 T) F26 (bn F26) (xAh X G a26)) (cc (aNt F28 T (pL F1) F1.2 (bn F1) (xAh X G a1)) F28 (bn F28) (xAh X G a28)) (cc (aFv F29) F29 (bn F29) (xAh X G a29)) (cc (aCi F30 GNx F25.2 (bn F25) (xAh X G a25)) F30 (bn F30) (xAh X G a30))
   (cc (aNz F31 T MC GB (bn FM1) qM1.m GRo (bn FM7) qM7.m GEn (bn FM8) qM8.m GTo (bn FM9) qM9.m) F31 (bn F31) (xAh X G a31)) DE MK TO AI Mm Gt GM GKe F20.2 (bn F20) (xAh X G a20) GRO F23.2 (bn F23) (xAh X G a23) ⟨GBh,bn FM6,qM6.m⟩ ⟨GEd,bn FM5,qM5.m⟩
 ·obtain⟨_,_,_,_,_,_,_,_,_,rfl,_,_⟩:=F32.ex;exact .of_eq rfl
theorem walk {l:OpenLaw}{q:Program}{loose:List Str}{XP:(Str->Option Value)->Heap->Prop}{YP:World->Heap->Prop}{d:DefRec}{K:Params->xAb}{cR:Addr}(Pr:Addr)(hn:l.most=some 63)(hdf:d.params.defaults=[])
  (hY:∀ (w:World) (h:Heap),YP w h->(K w.params).In h/\∀ p∈[Pr],h.get? p=some (tabObj #[]))
  (F:∀ (w:World) (mg:xSO) (fa:Addr) (h:Heap),(K w.params).In h->h.Ns mainGlobals mg->mg d.name=some (.ref fa) ->
   ∃ fd:FuncData,(∀ (s:Shared) (u:Value),BindsTo s fd ⟨[u],[]⟩ [("_law_script",u)])/\∀ base:Heap,(K w.params).In base->base.Ns mainGlobals mg->qD mg base->aQ l.prog w (K w.params) mg base CX0 15 fa fd ["_law_script"] (aDz (K w.params) Pr))
  (hK:∀ (w:World),∀ p∈[(cR,Pr)],codeHdIn (K w.params) p.1 p.2=true/\(K w.params).lookup p.2=none) :
  WalkO q loose XP YP l.row.toRowW d [] (λf vs=>PySem.call f vs):=
 L2.walk_ofT (n:=63) (k:=15) (x:="_law_script") (sp:=λw=>aDz (K w.params) Pr) [(cR,Pr)] hn (by decide) hdf ⟨rfl,by decide,by decide⟩
  (λw h Y=>⟨(hY w h Y).1,λp hp=>(hY w h Y).2 p.2 (by rw[xAi.mp hp]; simp)⟩) hK F
  (λw H a ns hl hT hS=>⟨a,ns,rfl,hS,hl,hT (cR,Pr) (by simp),λ_=>rfl⟩)
end K35
namespace Hd
open PySem PySem.W
abbrev aHg:=PySem.W.Fast.tw14364793385576792824
abbrev aPx:=PySem.W.Fast.tw10110043849684766642
abbrev aUl:=PySem.W.Fast.tw14374325043358763698
abbrev fGo:=PySem.W.Fast.tw15667345088766844465
abbrev aUm:=PySem.W.Fast.tw14082659384304107361
abbrev aUn:=PySem.W.Fast.tw11892475500146522536
abbrev fSeen:=PySem.W.Fast.tw4187177175401517315
theorem aOr:PySem.treeTable=aHg:=PySem.W.Fast.te14364793385576792824
theorem aUo:@PySem.W.segRunT=aPx:=PySem.W.Fast.te10110043849684766642
theorem aXv:@PySem.W.segRun=aUl:=PySem.W.Fast.te14374325043358763698
theorem eGo:@PySem.W.topGo=fGo:=PySem.W.Fast.te15667345088766844465
theorem aXw:@PySem.W.topRun=aUm:=PySem.W.Fast.te14082659384304107361
theorem aXx:@PySem.denote=aUn:=PySem.W.Fast.te11892475500146522536
theorem aUp:@PySem.W.openSeen=fSeen:=PySem.W.Fast.te4187177175401517315
abbrev an:Option Value:=some (.ref 6)
abbrev p0:Pos:=⟨0,0,0,0⟩
abbrev d0:Drawn:=⟨0,0,0,0⟩
def lf:Life:=⟨[],[],[],0,[],[],false,#[],[],0,false,false,false,0,[2000,10,10],false,0,true,[],[],0,false⟩
def St (T:Params->BT)(n k:Nat)(w:World)(os:OsState):SharedT:=⟨T w.params,n,lf,#[],d0,k,os⟩
def Sh (H:Params->Heap)(k:Nat)(w:World)(os:OsState):Shared:=⟨H w.params,#[],d0,k,os⟩
abbrev cd (p:Program)(env:Env):Code:=.body (behindTheImports p) env
abbrev B:List Frame:=[topFrame p0]
def Pre (p:Program)(env:Env)(H:Params->Heap)(k s:Nat)(a:Pos):Prop:=
 ∀ w:World,(λos=>fGo aHg p w 11 an s ⟨boot_heap w.params,Array.mk [],boot_drawn,boot_toks,os⟩ (topStub p))=λos=>some (Sh H k w os,⟨aUn aHg (cd p env),cd p env,a,B⟩)
def Blk (p:Program)(env:Env)(H:Params->Heap)(k:Nat)(T:Params->BT)(n k' s:Nat)(a b:Pos):Prop:=
 ∀ w:World,(λos=>aUl aHg p w 11 an 1 s (Sh H k w os) (blockOf (behindTheImports p) env (cd p env) a B))=λos=>some (.next,(St T n k' w os).abs,cd p env,b)
def Pc (p:Program)(env:Env)(T:Params->BT)(n k:Nat)(T':Params->BT)(n' k' s:Nat)(l:List Stmt)(a b:Pos):Prop:=
 ∀ w:World,(λos=>aPx aHg p w 11 an 1 s (St T n k w os) (piecesOf l env (cd p env) a B))=λos=>some (.next,St T' n' k' w os,cd p env,b)
def Fi (p:Program)(env:Env)(T:Params->BT)(n k:Nat)(H:Params->Heap)(k' s:Nat)(a:Pos):Prop:=
 ∀ w:World,(λos=>aUm aHg p w 11 an s (St T n k w os).abs ⟨doneF .next,cd p env,a,B⟩)=λos=>some (Sh H k' w os)
def Rn (p:Program)(env:Env)(T:Params->BT)(n k:Nat)(H:Params->Heap)(k':Nat)(l:List Stmt)(a:Pos)(N:Nat):Prop:=
 ∀ (w:World) (os:OsState),topRun treeTable p w 11 an N (St T n k w os).abs (restOf l env (cd p env) a B)=some (Sh H k' w os)
section
variable {p:Program}{env:Env}{T T':Params->BT}{H H':Params->Heap}{n k n' k' kf s N:Nat}{l r:List Stmt}{a b:Pos}
theorem Fi.run (h:Fi p env T n k H k' s a):Rn p env T n k H k' [] a s:=λw os=>by
 refine piece_nil ?_;rw[aXw,aOr];exact congrFun (h w) os
theorem Pc.run (h:Pc p env T n k T' n' k' s l a b)(q:Rn p env T' n' k' H kf r b N):Rn p env T n k H kf (l++r) a (s+N):=λw os=>by
 refine piece_app (segRun_of ?_) (q w os);rw[aUo,aOr];exact congrFun (h w) os
theorem top_run {s1 s2:Nat}(h1:Pre p env H' k s1 a)(h2:Blk p env H' k T n k' s2 a b)(hl:l=behindTheImports p)(q:Rn p env T n k' H kf l b N)(w:World)(os:OsState) :
  topRun treeTable p w 11 an (s1+(s2+N)) ⟨boot_heap w.params,Array.mk [],boot_drawn,boot_toks,os⟩ (topStub p)=some (Sh H kf w os):=by
 have e1:topGo treeTable p w 11 an s1 ⟨boot_heap w.params,Array.mk [],boot_drawn,boot_toks,os⟩ (topStub p)=some (Sh H' k w os,⟨denote treeTable (cd p env),cd p env,a,B⟩):=by
  rw[eGo,aOr,aXx];exact congrFun (h1 w) os
 have e2:segRun treeTable p w 11 an 1 s2 (Sh H' k w os) (blockOf (behindTheImports p) env (cd p env) a B)=some (.next,(St T n k' w os).abs,cd p env,b):=by
  rw[aXv,aOr];exact congrFun (h2 w) os
 subst hl;exact go_top e1 (piece_block e2 (q w os))
theorem aHq:∀ w:World,((boot_heap w.params).isNs mainGlobals&&(Array.mk []:Array GenState).size==0,(boot_heap w.params).objs.size,(boot_heap w.params).nsMap mainGlobals "__annotations__")=(true,11,an):=by
 intro w
 kernel_rfl
theorem left_of {q:Program}{loose:List Str}{Xt:Shared->Bool}{α:Type}{Yf:Shared->α}{Ya:World->α}{M:Nat}(e:opening p=plainProg p.main.scope.names)(f:∀ s,fenceModules? p s=some s)(hN:Nat.ble 600 N=true)(le:Nat.ble M N=true)
  (run:∀ (w:World) (os:OsState),topRun treeTable p w 11 an M ⟨boot_heap w.params,Array.mk [],boot_drawn,boot_toks,os⟩ (topStub p)=some (Sh H k w os))
  (l1:∀ w:World,(λos=>staticsOk (importedModules p.main.body) (boot_heap w.params) (H w.params)&&namesBound p (H w.params)&&gensDone (Sh H k w os)&&laidKept (boot_heap w.params) (H w.params))=λ_=>true)
  (l2:∀ w:World,(λos=>fSeen q loose (importedModules p.main.body) Xt true (Sh H k w os))=λ_=>openGood q loose)(l3:∀ w:World,(λos=>Yf (Sh H k w os))=λ_=>Ya w):LeftO p q loose Xt Yf Ya N true:=by
 refine LeftO.of_pieces (boot_open e hN f) aHq run le (λw=>?_);have h1:=l1 w;have h2:=l2 w;rw[<- aUp] at h2;funext os;exact Prod.ext (congrFun h1 os) (Prod.ext (congrFun h2 os) (congrFun (l3 w) os))
end
end Hd
namespace K35H
open PySem PySem.W
open L2 (aD aH aG aB)
open PySem.W.BT renaming node → bn, nil → bz
abbrev r:=Value.ref
abbrev zaa:Obj:=⟨.type "builtin_function_or_method",none,.fields #[.builtin "type.__prepare__",.type "type"],#[]⟩
abbrev zab:Value:=(.str "roomward.rules" 747)
abbrev zac:Array (Option Value):=#[(some (.ref 22)),none,(some (.str "WardError" 196)),(some (.str "WardError" 204)),(some (.builtin "ValueError.__new__")),(some (.bool true))]
abbrev zad:Value:=(.str "law_roomward_k35_told_machines" 1134)
abbrev zae:Option Value:=(some (.builtin "object.__new__"))
abbrev zaf:Value:=(.str "roomward.errors" 194)
abbrev zag:List Value:=[.ref 31,.type "ValueError",.type "Exception",.type "BaseException",.type "object"]
abbrev zah:Value:=(.str "roomward.machines" 441)
abbrev zai:Value:=(.str "roomward.weaving" 622)
abbrev zaj:Option Value:=(some (.bool true))
abbrev zak:Value:=(.str "roomward.deeds" 310)
abbrev zal:Array (Option Value):=#[(some (.ref 535)),none,(some (.str "OfTwo" 876)),(some (.str "OfTwo" 884)),zae,zaj]
abbrev zam:Option Value:=(some (.builtin "ValueError.__new__"))
abbrev zan:Option Value:=(some (.str "Rule" 762))
abbrev zao:Option Value:=(some (.str "Rule" 770))
abbrev pp:Program:=PySem.Challenge.pw_roomward_k35_told_machines
def tp (i:Nat):Stmt:=pp.main.body.getD i (.Pass ⟨0,0,0,0⟩)
abbrev kh:=@PySem.PyData.keyHash
abbrev en (P:Params)(k:Str)(n:Nat)(v:Value):DictEntry:=⟨kh P k,.str k n,v⟩
noncomputable section
abbrev co (l:List Value):Obj:=⟨.type "code",none,.fields l.toArray,#[]⟩
abbrev nf (l:List Value):Obj:=⟨.none,none,.fields l.toArray,#[]⟩
abbrev tu (l:List Value):Obj:=⟨.type "tuple",none,.seq l.toArray 0,#[]⟩
abbrev fu (f:FuncData):Obj:=⟨.type "function",none,.func f,#[]⟩
abbrev nu (f:FuncData):Obj:=⟨.none,none,.func f,#[]⟩
abbrev i0 (n:Int):Value:=.int n 0
abbrev cp (n:Nat):Value:=.str "/claim/cut.py" n
abbrev fv (n q:Str)(s:Stmt)(a:Nat)(m c:Value):Obj:=fu ⟨n,q,aH s,.stmts (aG s),aB s,a,[],.none,.none,.none,m,none,c,.none,0⟩
abbrev nv (n q:Str)(s:Stmt)(a:Nat)(m c:Value):Obj:=nu ⟨n,q,aH s,.stmts (aG s),aB s,a,[],.none,.none,.none,m,none,c,.none,0⟩
abbrev fw (n:Str):=fv n n
abbrev nw (n:Str):=nv n n
abbrev cv (a:Str)(x:Nat)(b:Str)(y z:Nat)(c d e f g:Int)(p:Nat)(q:Int)(r:Nat)(s:Int)(u:Nat):Obj:=co [.str a x,.str b y,cp z,i0 c,i0 d,i0 e,i0 f,i0 g,.ref p,.bool false,i0 q,.ref r,.none,.none,.none,.none,i0 s,i0 c,cp u]
abbrev fm (a b c:Nat)(s:Str)(n d:Nat):Obj:=⟨.type "frame",none,.plain,#[some (.ref a),some (.ref b),some (.ref c),none,some (.str s n),none,some (.ref d)]⟩
def o0:=tu []
def o1:=nf []
def o2:=cv "<module>" 182 "<module>" 183 184 1 0 0 0 0 11 181 12 185 186
def o3:=fm 13 3 3 "__main__" 164 0
def Ha (P:Params):Heap:=⟨Array.mk [boot_o_0 P,boot_o_1 P,boot_o_2 P,boot_o_3 P,boot_o_4 P,boot_o_5 P,boot_o_6 P,boot_o_7 P,boot_o_8 P,boot_o_9 P,boot_o_10 P,o0,o1,o2,o3],Hd.lf⟩
def env:Env:={ scope:=pp.main.scope,locals:=mainNs,globals:=mainNs,cells:=[],code:=.ref 13,frame:=some 14 }
theorem pre:Hd.Pre pp env Ha 187 12 ⟨0,0,0,0⟩:=by
 intro w
 kernel_rfl
def ns (t:BT)(l:List (Nat×Obj)):BT:=l.foldl (λt x=>t.ins x.1 x.2) t
abbrev be (x:Obj):BT:=bn x bz bz
def T0 (P:Params):BT:=(bn (boot_o_0 P) (bn (boot_o_1 P) (bn (boot_o_3 P) (be (boot_o_7 P)) (be o0)) (bn (boot_o_5 P) (be (boot_o_9 P)) (be o2))) (bn (boot_o_2 P) (bn (boot_o_4 P) (be (boot_o_8 P)) (be o1)) (bn (boot_o_6 P) (be (boot_o_10 P)) (be o3))))
theorem blk:Hd.Blk pp env Ha 187 T0 15 187 1 ⟨0,0,0,0⟩ ⟨0,0,0,0⟩:=by
 intro w
 kernel_rfl
def g0 (P:Params):List DictEntry:=[en P "__doc__" 166 .none,en P "__package__" 167 .none,en P "__loader__" 168 (.builtin "__main__.__loader__#opaque"),en P "__spec__" 169 .none,en P "__annotations__" 170 (.ref 6),en P "__builtins__" 171 (.ref 4),en P "__file__" 173 (.str "/claim/cut.py" 172),en P "__cached__" 174 .none,en P "_wall" 193 (.ref 21),en P "WardError" 213 (.ref 31)]
def o4 (P:Params):Obj:=⟨.type "dict",none,.dict ⟨en P "__name__" 165 zaf::g0 P⟩ 11,#[]⟩
def o5:=nf [i0 1,i0 0,r 20,i0 5,i0 0,r 27]
def o6:=tu []
def o7:=nf []
def o8:=tu [.str "k" 190]
def o9:=tu []
def o10:=nw "_wall" (tp 0) 0 .none .none
def o11:=co [.str "_wall" 187,.str "_wall" 188,cp 189,i0 1,i0 1,i0 0,i0 0,i0 3,r 15,.bool true,i0 181,r 16,.none,r 17,r 18,r 19,i0 191,i0 1,cp 192]
def o12:=fw "_wall" (tp 0) 3 (.str "__main__" 164) (r 20)
def o13:=tu [.type "ValueError"]
def o14:Obj:=zaa
def o15 (P:Params):Obj:=⟨.type "dict",none,.dict #[en P "__module__" 203 zaf,en P "__qualname__" 205 (.str "WardError" 204),en P "__firstlineno__" 207 (.int 5 206),en P "__static_attributes__" 208 (r 29)] 4,#[]⟩
def o16:=tu []
def o17:=nf []
def o18:=cv "WardError" 198 "WardError" 199 200 5 0 0 0 0 25 181 26 201 202
def o19:=fm 27 3 24 "roomward.errors" 194 0
def o20:=tu []
def o21 (P:Params):Obj:=⟨.type "dict",none,.dict #[en P "__module__" 203 zaf,en P "__firstlineno__" 207 (.int 5 206),en P "__static_attributes__" 208 (r 29),en P "__weakref__" 210 (r 32),en P "__doc__" 211 .none] 3,#[]⟩
def o22:Obj:=⟨.type "type",none,.cls ⟨"WardError",[.type "ValueError"],zag,30,"WardError",true,[],[],false,none,false⟩,zac⟩
def o23:Obj:=⟨.type "getset_descriptor",none,.fields #[.str "__weakref__" 209,r 31,.builtin "ExceptionGroup.__weakref__",.none],#[]⟩
def o24:Obj:=⟨.type "super",none,.fields #[r 31,r 31,r 31],#[]⟩
def o25:Obj:=⟨.type "builtin_function_or_method",none,.fields #[.builtin "object.__init_subclass__",r 31],#[]⟩
def T1 (P:Params):BT:=ns (T0 P) [(3,o4 P),(12,o5),(15,o6),(16,o7),(17,o8),(18,o9),(19,o10),(20,o11),(21,o12),(22,o13),(23,o14),(24,o15 P),(25,o16),(26,o17),(27,o18),(28,o19),(29,o20),(30,o21 P),(31,o22),(32,o23),(33,o24),(34,o25)]
theorem pc1:Hd.Pc pp env T0 15 187 T1 35 214 225 [tp 0,tp 1,tp 2] ⟨0,0,0,0⟩ ⟨5,0,6,8⟩:=by
 intro w
 kernel_rfl
def g1 (P:Params):List DictEntry:=g0 P++[en P "NoName" 229 (.ref 44)]
def o26 (P:Params):Obj:=⟨.type "dict",none,.dict ⟨en P "__name__" 165 zaf::g1 P⟩ 12,#[]⟩
def o27:=nf [i0 1,i0 0,r 20,i0 5,i0 0,r 27,i0 7,i0 0,r 40]
def o28:Obj:=⟨.type "type",none,.cls ⟨"WardError",[.type "ValueError"],zag,30,"WardError",true,[],[r 44],false,none,false⟩,zac⟩
def o29:=tu [r 31]
def o30:Obj:=zaa
def o31 (P:Params):Obj:=⟨.type "dict",none,.dict #[en P "__module__" 221 zaf,en P "__qualname__" 223 (.str "NoName" 222),en P "__firstlineno__" 225 (.int 7 224),en P "__static_attributes__" 226 (r 42)] 4,#[]⟩
def o32:=tu []
def o33:=nf []
def o34:=cv "NoName" 216 "NoName" 217 218 7 0 0 0 0 38 181 39 219 220
def o35:=fm 40 3 37 "roomward.errors" 194 0
def o36:=tu []
def o37 (P:Params):Obj:=⟨.type "dict",none,.dict #[en P "__module__" 221 zaf,en P "__firstlineno__" 225 (.int 7 224),en P "__static_attributes__" 226 (r 42),en P "__doc__" 227 .none] 2,#[]⟩
def o38:Obj:=⟨.type "type",none,.cls ⟨"NoName",[r 31],[r 44,r 31,.type "ValueError",.type "Exception",.type "BaseException",.type "object"],43,"NoName",true,[],[],false,none,false⟩,#[(some (r 35)),none,(some (.str "NoName" 214)),(some (.str "NoName" 222)),zam,zaj]⟩
def o39:Obj:=⟨.type "super",none,.fields #[r 44,r 44,r 44],#[]⟩
def o40:Obj:=⟨.type "builtin_function_or_method",none,.fields #[.builtin "object.__init_subclass__",r 44],#[]⟩
def T2 (P:Params):BT:=ns (T1 P) [(3,o26 P),(12,o27),(31,o28),(35,o29),(36,o30),(37,o31 P),(38,o32),(39,o33),(40,o34),(41,o35),(42,o36),(43,o37 P),(44,o38),(45,o39),(46,o40)]
theorem pc2:Hd.Pc pp env T1 35 214 T2 47 230 214 [tp 3] ⟨5,0,6,8⟩ ⟨7,0,8,8⟩:=by
 intro w
 kernel_rfl
def g2 (P:Params):List DictEntry:=g1 P++[en P "NoDeed" 245 (.ref 56)]
def o41 (P:Params):Obj:=⟨.type "dict",none,.dict ⟨en P "__name__" 165 zaf::g2 P⟩ 13,#[]⟩
def o42:=nf [i0 1,i0 0,r 20,i0 5,i0 0,r 27,i0 7,i0 0,r 40,i0 9,i0 0,r 52]
def o43:Obj:=⟨.type "type",none,.cls ⟨"WardError",[.type "ValueError"],zag,30,"WardError",true,[],[r 44,r 56],false,none,false⟩,zac⟩
def o44:=tu [r 31]
def o45:Obj:=zaa
def o46 (P:Params):Obj:=⟨.type "dict",none,.dict #[en P "__module__" 237 zaf,en P "__qualname__" 239 (.str "NoDeed" 238),en P "__firstlineno__" 241 (.int 9 240),en P "__static_attributes__" 242 (r 54)] 4,#[]⟩
def o47:=tu []
def o48:=nf []
def o49:=cv "NoDeed" 232 "NoDeed" 233 234 9 0 0 0 0 50 181 51 235 236
def o50:=fm 52 3 49 "roomward.errors" 194 0
def o51:=tu []
def o52 (P:Params):Obj:=⟨.type "dict",none,.dict #[en P "__module__" 237 zaf,en P "__firstlineno__" 241 (.int 9 240),en P "__static_attributes__" 242 (r 54),en P "__doc__" 243 .none] 2,#[]⟩
def o53:Obj:=⟨.type "type",none,.cls ⟨"NoDeed",[r 31],[r 56,r 31,.type "ValueError",.type "Exception",.type "BaseException",.type "object"],55,"NoDeed",true,[],[],false,none,false⟩,#[(some (r 47)),none,(some (.str "NoDeed" 230)),(some (.str "NoDeed" 238)),zam,zaj]⟩
def o54:Obj:=⟨.type "super",none,.fields #[r 56,r 56,r 56],#[]⟩
def o55:Obj:=⟨.type "builtin_function_or_method",none,.fields #[.builtin "object.__init_subclass__",r 56],#[]⟩
def T3 (P:Params):BT:=ns (T2 P) [(3,o41 P),(12,o42),(31,o43),(47,o44),(48,o45),(49,o46 P),(50,o47),(51,o48),(52,o49),(53,o50),(54,o51),(55,o52 P),(56,o53),(57,o54),(58,o55)]
theorem pc3:Hd.Pc pp env T2 47 230 T3 59 246 214 [tp 4] ⟨7,0,8,8⟩ ⟨9,0,10,8⟩:=by
 intro w
 kernel_rfl
def g3 (P:Params):List DictEntry:=g2 P++[en P "NoRoom" 261 (.ref 68)]
def o56 (P:Params):Obj:=⟨.type "dict",none,.dict ⟨en P "__name__" 165 zaf::g3 P⟩ 14,#[]⟩
def o57:=nf [i0 1,i0 0,r 20,i0 5,i0 0,r 27,i0 7,i0 0,r 40,i0 9,i0 0,r 52,i0 11,i0 0,r 64]
def o58:Obj:=⟨.type "type",none,.cls ⟨"WardError",[.type "ValueError"],zag,30,"WardError",true,[],[r 44,r 56,r 68],false,none,false⟩,zac⟩
def o59:=tu [r 31]
def o60:Obj:=zaa
def o61 (P:Params):Obj:=⟨.type "dict",none,.dict #[en P "__module__" 253 zaf,en P "__qualname__" 255 (.str "NoRoom" 254),en P "__firstlineno__" 257 (.int 11 256),en P "__static_attributes__" 258 (r 66)] 4,#[]⟩
def o62:=tu []
def o63:=nf []
def o64:=cv "NoRoom" 248 "NoRoom" 249 250 11 0 0 0 0 62 181 63 251 252
def o65:=fm 64 3 61 "roomward.errors" 194 0
def o66:=tu []
def o67 (P:Params):Obj:=⟨.type "dict",none,.dict #[en P "__module__" 253 zaf,en P "__firstlineno__" 257 (.int 11 256),en P "__static_attributes__" 258 (r 66),en P "__doc__" 259 .none] 2,#[]⟩
def o68:Obj:=⟨.type "type",none,.cls ⟨"NoRoom",[r 31],[r 68,r 31,.type "ValueError",.type "Exception",.type "BaseException",.type "object"],67,"NoRoom",true,[],[],false,none,false⟩,#[(some (r 59)),none,(some (.str "NoRoom" 246)),(some (.str "NoRoom" 254)),zam,zaj]⟩
def o69:Obj:=⟨.type "super",none,.fields #[r 68,r 68,r 68],#[]⟩
def o70:Obj:=⟨.type "builtin_function_or_method",none,.fields #[.builtin "object.__init_subclass__",r 68],#[]⟩
def T4 (P:Params):BT:=ns (T3 P) [(3,o56 P),(12,o57),(31,o58),(59,o59),(60,o60),(61,o61 P),(62,o62),(63,o63),(64,o64),(65,o65),(66,o66),(67,o67 P),(68,o68),(69,o69),(70,o70)]
theorem pc4:Hd.Pc pp env T3 59 246 T4 71 262 214 [tp 5] ⟨9,0,10,8⟩ ⟨11,0,12,8⟩:=by
 intro w
 kernel_rfl
def g4 (P:Params):List DictEntry:=g3 P++[en P "TwiceTold" 277 (.ref 80)]
def o71 (P:Params):Obj:=⟨.type "dict",none,.dict ⟨en P "__name__" 165 zaf::g4 P⟩ 15,#[]⟩
def o72:=nf [i0 1,i0 0,r 20,i0 5,i0 0,r 27,i0 7,i0 0,r 40,i0 9,i0 0,r 52,i0 11,i0 0,r 64,i0 13,i0 0,r 76]
def o73:Obj:=⟨.type "type",none,.cls ⟨"WardError",[.type "ValueError"],zag,30,"WardError",true,[],[r 44,r 56,r 68,r 80],false,none,false⟩,zac⟩
def o74:=tu [r 31]
def o75:Obj:=zaa
def o76 (P:Params):Obj:=⟨.type "dict",none,.dict #[en P "__module__" 269 zaf,en P "__qualname__" 271 (.str "TwiceTold" 270),en P "__firstlineno__" 273 (.int 13 272),en P "__static_attributes__" 274 (r 78)] 4,#[]⟩
def o77:=tu []
def o78:=nf []
def o79:=cv "TwiceTold" 264 "TwiceTold" 265 266 13 0 0 0 0 74 181 75 267 268
def o80:=fm 76 3 73 "roomward.errors" 194 0
def o81:=tu []
def o82 (P:Params):Obj:=⟨.type "dict",none,.dict #[en P "__module__" 269 zaf,en P "__firstlineno__" 273 (.int 13 272),en P "__static_attributes__" 274 (r 78),en P "__doc__" 275 .none] 2,#[]⟩
def o83:Obj:=⟨.type "type",none,.cls ⟨"TwiceTold",[r 31],[r 80,r 31,.type "ValueError",.type "Exception",.type "BaseException",.type "object"],79,"TwiceTold",true,[],[],false,none,false⟩,#[(some (r 71)),none,(some (.str "TwiceTold" 262)),(some (.str "TwiceTold" 270)),zam,zaj]⟩
def o84:Obj:=⟨.type "super",none,.fields #[r 80,r 80,r 80],#[]⟩
def o85:Obj:=⟨.type "builtin_function_or_method",none,.fields #[.builtin "object.__init_subclass__",r 80],#[]⟩
def T5 (P:Params):BT:=ns (T4 P) [(3,o71 P),(12,o72),(31,o73),(71,o74),(72,o75),(73,o76 P),(74,o77),(75,o78),(76,o79),(77,o80),(78,o81),(79,o82 P),(80,o83),(81,o84),(82,o85)]
theorem pc5:Hd.Pc pp env T4 71 262 T5 83 278 214 [tp 6] ⟨11,0,12,8⟩ ⟨13,0,14,8⟩:=by
 intro w
 kernel_rfl
def g5 (P:Params):List DictEntry:=g4 P++[en P "TooMany" 293 (.ref 92)]
def o86 (P:Params):Obj:=⟨.type "dict",none,.dict ⟨en P "__name__" 165 zaf::g5 P⟩ 16,#[]⟩
def o87:=nf [i0 1,i0 0,r 20,i0 5,i0 0,r 27,i0 7,i0 0,r 40,i0 9,i0 0,r 52,i0 11,i0 0,r 64,i0 13,i0 0,r 76,i0 15,i0 0,r 88]
def o88:Obj:=⟨.type "type",none,.cls ⟨"WardError",[.type "ValueError"],zag,30,"WardError",true,[],[r 44,r 56,r 68,r 80,r 92],false,none,false⟩,zac⟩
def o89:=tu [r 31]
def o90:Obj:=zaa
def o91 (P:Params):Obj:=⟨.type "dict",none,.dict #[en P "__module__" 285 zaf,en P "__qualname__" 287 (.str "TooMany" 286),en P "__firstlineno__" 289 (.int 15 288),en P "__static_attributes__" 290 (r 90)] 4,#[]⟩
def o92:=tu []
def o93:=nf []
def o94:=cv "TooMany" 280 "TooMany" 281 282 15 0 0 0 0 86 181 87 283 284
def o95:=fm 88 3 85 "roomward.errors" 194 0
def o96:=tu []
def o97 (P:Params):Obj:=⟨.type "dict",none,.dict #[en P "__module__" 285 zaf,en P "__firstlineno__" 289 (.int 15 288),en P "__static_attributes__" 290 (r 90),en P "__doc__" 291 .none] 2,#[]⟩
def o98:Obj:=⟨.type "type",none,.cls ⟨"TooMany",[r 31],[r 92,r 31,.type "ValueError",.type "Exception",.type "BaseException",.type "object"],91,"TooMany",true,[],[],false,none,false⟩,#[(some (r 83)),none,(some (.str "TooMany" 278)),(some (.str "TooMany" 286)),zam,zaj]⟩
def o99:Obj:=⟨.type "super",none,.fields #[r 92,r 92,r 92],#[]⟩
def o100:Obj:=⟨.type "builtin_function_or_method",none,.fields #[.builtin "object.__init_subclass__",r 92],#[]⟩
def T6 (P:Params):BT:=ns (T5 P) [(3,o86 P),(12,o87),(31,o88),(83,o89),(84,o90),(85,o91 P),(86,o92),(87,o93),(88,o94),(89,o95),(90,o96),(91,o97 P),(92,o98),(93,o99),(94,o100)]
theorem pc6:Hd.Pc pp env T5 83 278 T6 95 294 214 [tp 7] ⟨13,0,14,8⟩ ⟨15,0,16,8⟩:=by
 intro w
 kernel_rfl
def g6 (P:Params):List DictEntry:=g5 P++[en P "NoRule" 309 (.ref 104),en P "LETTERS" 313 (.str "abcdefghijklmnopqrstuvwxyz" 312),en P "FIGURES" 315 (.str "0123456789" 314),en P "MOST_SIGNS" 317 (.int 8 316),en P "MOST_DEEDS" 319 (.int 12 318),en P "is_name" 325 (.ref 111),en P "refuse_names" 334 (.ref 118),en P "weights_of" 344 (.ref 125),en P "marks_of" 353 (.ref 132)]
def o101 (P:Params):Obj:=⟨.type "dict",none,.dict ⟨en P "__name__" 165 zak::g6 P⟩ 25,#[]⟩
def o102:=nf [i0 1,i0 0,r 20,i0 5,i0 0,r 27,i0 7,i0 0,r 40,i0 9,i0 0,r 52,i0 11,i0 0,r 64,i0 13,i0 0,r 76,i0 15,i0 0,r 88,i0 17,i0 0,r 100,i0 24,i0 0,r 110,i0 29,i0 0,r 117,i0 39,i0 0,r 124,i0 46,i0 0,r 131]
def o103:Obj:=⟨.type "type",none,.cls ⟨"WardError",[.type "ValueError"],zag,30,"WardError",true,[],[r 44,r 56,r 68,r 80,r 92,r 104],false,none,false⟩,zac⟩
def o104:=tu [r 31]
def o105:Obj:=zaa
def o106 (P:Params):Obj:=⟨.type "dict",none,.dict #[en P "__module__" 301 zaf,en P "__qualname__" 303 (.str "NoRule" 302),en P "__firstlineno__" 305 (.int 17 304),en P "__static_attributes__" 306 (r 102)] 4,#[]⟩
def o107:=tu []
def o108:=nf []
def o109:=cv "NoRule" 296 "NoRule" 297 298 17 0 0 0 0 98 181 99 299 300
def o110:=fm 100 3 97 "roomward.errors" 194 0
def o111:=tu []
def o112 (P:Params):Obj:=⟨.type "dict",none,.dict #[en P "__module__" 301 zaf,en P "__firstlineno__" 305 (.int 17 304),en P "__static_attributes__" 306 (r 102),en P "__doc__" 307 .none] 2,#[]⟩
def o113:Obj:=⟨.type "type",none,.cls ⟨"NoRule",[r 31],[r 104,r 31,.type "ValueError",.type "Exception",.type "BaseException",.type "object"],103,"NoRule",true,[],[],false,none,false⟩,#[(some (r 95)),none,(some (.str "NoRule" 294)),(some (.str "NoRule" 302)),zam,zaj]⟩
def o114:Obj:=⟨.type "super",none,.fields #[r 104,r 104,r 104],#[]⟩
def o115:Obj:=⟨.type "builtin_function_or_method",none,.fields #[.builtin "object.__init_subclass__",r 104],#[]⟩
def o116:=tu []
def o117:=nf []
def o118:=nw "is_name" (tp 14) 0 .none .none
def o119:=co [.str "is_name" 320,.str "is_name" 321,cp 322,i0 24,i0 1,i0 0,i0 0,i0 3,r 107,.bool true,i0 181,r 108,.none,.none,.none,r 109,i0 323,i0 24,cp 324]
def o120:=fw "is_name" (tp 14) 3 zak (r 110)
def o121:=tu []
def o122:=nf []
def o123:=tu [.str "names" 329,.str "ahead" 330,.str "name" 331]
def o124:=tu []
def o125:=nw "refuse_names" (tp 15) 0 .none .none
def o126:=co [.str "refuse_names" 326,.str "refuse_names" 327,cp 328,i0 29,i0 1,i0 0,i0 0,i0 3,r 112,.bool true,i0 181,r 113,.none,r 114,r 115,r 116,i0 332,i0 29,cp 333]
def o127:=fw "refuse_names" (tp 15) 3 zak (r 117)
def o128:=tu []
def o129:=nf []
def o130:=tu [.str "names" 338,.str "weights" 339,.str "weight" 340,.str "name" 341]
def o131:=tu []
def o132:=nw "weights_of" (tp 16) 0 .none .none
def o133:=co [.str "weights_of" 335,.str "weights_of" 336,cp 337,i0 39,i0 1,i0 0,i0 0,i0 3,r 119,.bool true,i0 181,r 120,.none,r 121,r 122,r 123,i0 342,i0 39,cp 343]
def o134:=fw "weights_of" (tp 16) 3 zak (r 124)
def o135:=tu []
def o136:=nf []
def o137:=tu [.str "names" 348,.str "marks" 349,.str "name" 350]
def o138:=tu []
def o139:=nw "marks_of" (tp 17) 0 .none .none
def o140:=co [.str "marks_of" 345,.str "marks_of" 346,cp 347,i0 46,i0 1,i0 0,i0 0,i0 3,r 126,.bool true,i0 181,r 127,.none,r 128,r 129,r 130,i0 351,i0 46,cp 352]
def o141:=fw "marks_of" (tp 17) 3 zak (r 131)
def T7 (P:Params):BT:=ns (T6 P) [(3,o101 P),(12,o102),(31,o103),(95,o104),(96,o105),(97,o106 P),(98,o107),(99,o108),(100,o109),(101,o110),(102,o111),(103,o112 P),(104,o113),(105,o114),(106,o115),(107,o116),(108,o117),(109,o118),(110,o119),(111,o120),(112,o121),(113,o122),(114,o123),(115,o124),(116,o125),(117,o126),(118,o127),(119,o128),(120,o129),(121,o130),(122,o131),(123,o132),(124,o133),(125,o134),(126,o135),(127,o136),(128,o137),(129,o138),(130,o139),(131,o140),(132,o141)]
theorem pc7:Hd.Pc pp env T6 95 294 T7 133 354 379 [tp 8,tp 9,tp 10,tp 11,tp 12,tp 13,tp 14,tp 15,tp 16,tp 17] ⟨15,0,16,8⟩ ⟨46,0,50,16⟩:=by
 intro w
 kernel_rfl
def g7 (P:Params):List DictEntry:=g6 P++[en P "Deeds" 440 (.ref 199)]
def o142 (P:Params):Obj:=⟨.type "dict",none,.dict ⟨en P "__name__" 165 zak::g7 P⟩ 26,#[]⟩
def o143:=nf [i0 1,i0 0,r 20,i0 5,i0 0,r 27,i0 7,i0 0,r 40,i0 9,i0 0,r 52,i0 11,i0 0,r 64,i0 13,i0 0,r 76,i0 15,i0 0,r 88,i0 17,i0 0,r 100,i0 24,i0 0,r 110,i0 29,i0 0,r 117,i0 39,i0 0,r 124,i0 46,i0 0,r 131,i0 51,i0 0,r 138]
def o144:=tu []
def o145:Obj:=zaa
def g8 (P:Params):List DictEntry:=[en P "__qualname__" 363 (.str "Deeds" 362),en P "__firstlineno__" 365 (.int 51 364),en P "__init__" 375 (.ref 147),en P "names" 382 (.ref 154),en P "free" 389 (.ref 161),en P "has" 397 (.ref 168),en P "require" 406 (.ref 175),en P "is_free" 414 (.ref 182),en P "bits" 422 (.ref 189),en P "names_of" 430 (.ref 196),en P "__static_attributes__" 433 (.ref 197)]
def o146 (P:Params):Obj:=⟨.type "dict",none,.dict ⟨en P "__module__" 361 zak::g8 P⟩ 12,#[]⟩
def o147:=tu []
def o148:=nf [i0 53,i0 4,r 146,i0 60,i0 4,r 153,i0 63,i0 4,r 160,i0 66,i0 4,r 167,i0 69,i0 4,r 174,i0 74,i0 4,r 181,i0 77,i0 4,r 188,i0 80,i0 4,r 195]
def o149:=cv "Deeds" 356 "Deeds" 357 358 51 0 0 0 0 136 181 137 359 360
def o150:=fm 138 3 135 "roomward.deeds" 310 0
def o151:=tu [.none]
def o152:=tu []
def o153:=nf []
def o154:=tu [.str "self" 369,.str "names" 370,.str "free" 371,.str "free_names" 372]
def o155:=tu []
def o156:=nv "__init__" "Deeds.__init__" (aD (tp 18) 0) 0 .none .none
def o157:=co [.str "__init__" 366,.str "Deeds.__init__" 367,cp 368,i0 53,i0 3,i0 0,i0 0,i0 3,r 141,.bool true,i0 181,r 142,.none,r 143,r 144,r 145,i0 373,i0 53,cp 374]
def o158:Obj:=fu ⟨"__init__","Deeds.__init__",aH (aD (tp 18) 0),.stmts (aG (aD (tp 18) 0)),aB (aD (tp 18) 0),3,[],r 140,.none,.none,.str "roomward.deeds" 310,none,r 146,.none,0⟩
def o159:=tu []
def o160:=nf []
def o161:=tu [.str "self" 379]
def o162:=tu []
def o163:=nv "names" "Deeds.names" (aD (tp 18) 1) 0 .none .none
def o164:=co [.str "names" 376,.str "Deeds.names" 377,cp 378,i0 60,i0 1,i0 0,i0 0,i0 3,r 148,.bool true,i0 181,r 149,.none,r 150,r 151,r 152,i0 380,i0 60,cp 381]
def o165:=fv "names" "Deeds.names" (aD (tp 18) 1) 3 zak (r 153)
def o166:=tu []
def o167:=nf []
def o168:=tu [.str "self" 386]
def o169:=tu []
def o170:=nv "free" "Deeds.free" (aD (tp 18) 2) 0 .none .none
def o171:=co [.str "free" 383,.str "Deeds.free" 384,cp 385,i0 63,i0 1,i0 0,i0 0,i0 3,r 155,.bool true,i0 181,r 156,.none,r 157,r 158,r 159,i0 387,i0 63,cp 388]
def o172:=fv "free" "Deeds.free" (aD (tp 18) 2) 3 zak (r 160)
def o173:=tu []
def o174:=nf []
def o175:=tu [.str "self" 393,.str "thing" 394]
def o176:=tu []
def o177:=nv "has" "Deeds.has" (aD (tp 18) 3) 0 .none .none
def o178:=co [.str "has" 390,.str "Deeds.has" 391,cp 392,i0 66,i0 2,i0 0,i0 0,i0 3,r 162,.bool true,i0 181,r 163,.none,r 164,r 165,r 166,i0 395,i0 66,cp 396]
def o179:=fv "has" "Deeds.has" (aD (tp 18) 3) 3 zak (r 167)
def o180:=tu []
def o181:=nf []
def o182:=tu [.str "self" 401,.str "row" 402,.str "deed" 403]
def o183:=tu []
def o184:=nv "require" "Deeds.require" (aD (tp 18) 4) 0 .none .none
def o185:=co [.str "require" 398,.str "Deeds.require" 399,cp 400,i0 69,i0 2,i0 0,i0 0,i0 3,r 169,.bool true,i0 181,r 170,.none,r 171,r 172,r 173,i0 404,i0 69,cp 405]
def o186:=fv "require" "Deeds.require" (aD (tp 18) 4) 3 zak (r 174)
def o187:=tu []
def o188:=nf []
def o189:=tu [.str "self" 410,.str "deed" 411]
def o190:=tu []
def o191:=nv "is_free" "Deeds.is_free" (aD (tp 18) 5) 0 .none .none
def o192:=co [.str "is_free" 407,.str "Deeds.is_free" 408,cp 409,i0 74,i0 2,i0 0,i0 0,i0 3,r 176,.bool true,i0 181,r 177,.none,r 178,r 179,r 180,i0 412,i0 74,cp 413]
def o193:=fv "is_free" "Deeds.is_free" (aD (tp 18) 5) 3 zak (r 181)
def o194:=tu []
def o195:=nf []
def o196:=tu [.str "self" 418,.str "names" 419]
def o197:=tu []
def o198:=nv "bits" "Deeds.bits" (aD (tp 18) 6) 0 .none .none
def o199:=co [.str "bits" 415,.str "Deeds.bits" 416,cp 417,i0 77,i0 2,i0 0,i0 0,i0 3,r 183,.bool true,i0 181,r 184,.none,r 185,r 186,r 187,i0 420,i0 77,cp 421]
def o200:=fv "bits" "Deeds.bits" (aD (tp 18) 6) 3 zak (r 188)
def o201:=tu []
def o202:=nf []
def o203:=tu [.str "self" 426,.str "bits" 427]
def o204:=tu []
def o205:=nv "names_of" "Deeds.names_of" (aD (tp 18) 7) 0 .none .none
def o206:=co [.str "names_of" 423,.str "Deeds.names_of" 424,cp 425,i0 80,i0 2,i0 0,i0 0,i0 3,r 190,.bool true,i0 181,r 191,.none,r 192,r 193,r 194,i0 428,i0 80,cp 429]
def o207:=fv "names_of" "Deeds.names_of" (aD (tp 18) 7) 3 zak (r 195)
def o208:=tu [.str "free_marks" 431,.str "weights" 432]
def g9 (P:Params):List DictEntry:=[en P "__firstlineno__" 365 (.int 51 364),en P "__init__" 375 (.ref 147),en P "names" 382 (.ref 154),en P "free" 389 (.ref 161),en P "has" 397 (.ref 168),en P "require" 406 (.ref 175),en P "is_free" 414 (.ref 182),en P "bits" 422 (.ref 189),en P "names_of" 430 (.ref 196),en P "__static_attributes__" 433 (.ref 197),en P "__dict__" 435 (.ref 200),en P "__weakref__" 437 (.ref 201),en P "__doc__" 438 .none]
def o209 (P:Params):Obj:=⟨.type "dict",none,.dict ⟨en P "__module__" 361 zak::g9 P⟩ 4,#[]⟩
def o210:Obj:=⟨.type "type",none,.cls ⟨"Deeds",[.type "object"],[r 199,.type "object"],198,"Deeds",true,[],[],false,none,false⟩,#[none,none,(some (.str "Deeds" 354)),(some (.str "Deeds" 362)),zae,zaj]⟩
def o211:Obj:=⟨.type "getset_descriptor",none,.fields #[.str "__dict__" 434,r 199,.builtin "function.__dict__",.builtin "function.__dict__#set"],#[]⟩
def o212:Obj:=⟨.type "getset_descriptor",none,.fields #[.str "__weakref__" 436,r 199,.builtin "ExceptionGroup.__weakref__",.none],#[]⟩
def o213:Obj:=⟨.type "super",none,.fields #[r 199,r 199,r 199],#[]⟩
def o214:Obj:=⟨.type "builtin_function_or_method",none,.fields #[.builtin "object.__init_subclass__",r 199],#[]⟩
def T8 (P:Params):BT:=ns (T7 P) [(3,o142 P),(12,o143),(133,o144),(134,o145),(135,o146 P),(136,o147),(137,o148),(138,o149),(139,o150),(140,o151),(141,o152),(142,o153),(143,o154),(144,o155),(145,o156),(146,o157),(147,o158),(148,o159),(149,o160),(150,o161),(151,o162),(152,o163),(153,o164),(154,o165),(155,o166),(156,o167),(157,o168),(158,o169),(159,o170),(160,o171),(161,o172),(162,o173),(163,o174),(164,o175),(165,o176),(166,o177),(167,o178),(168,o179),(169,o180),(170,o181),(171,o182),(172,o183),(173,o184),(174,o185),(175,o186),(176,o187),(177,o188),(178,o189),(179,o190),(180,o191),(181,o192),(182,o193),(183,o194),(184,o195),(185,o196),(186,o197),(187,o198),(188,o199),(189,o200),(190,o201),(191,o202),(192,o203),(193,o204),(194,o205),(195,o206),(196,o207),(197,o208),(198,o209 P),(199,o210),(200,o211),(201,o212),(202,o213),(203,o214)]
theorem pc8:Hd.Pc pp env T7 133 354 T8 204 441 450 [tp 18] ⟨46,0,50,16⟩ ⟨51,0,81,16⟩:=by
 intro w
 kernel_rfl
def g10 (P:Params):List DictEntry:=g7 P++[en P "MOST_ROOMS" 444 (.int 60 443),en P "named_rooms" 457 (.ref 210),en P "refuse_rooms" 465 (.ref 217),en P "leads_of" 477 (.ref 224)]
def o215 (P:Params):Obj:=⟨.type "dict",none,.dict ⟨en P "__name__" 165 zah::g10 P⟩ 30,#[]⟩
def o216:=nf [i0 1,i0 0,r 20,i0 5,i0 0,r 27,i0 7,i0 0,r 40,i0 9,i0 0,r 52,i0 11,i0 0,r 64,i0 13,i0 0,r 76,i0 15,i0 0,r 88,i0 17,i0 0,r 100,i0 24,i0 0,r 110,i0 29,i0 0,r 117,i0 39,i0 0,r 124,i0 46,i0 0,r 131,i0 51,i0 0,r 138,i0 84,i0 0,r 209,i0 91,i0 0,r 216,i0 95,i0 0,r 223]
def o217:=tu []
def o218:=nf []
def o219:=tu [.str "begin" 448,.str "ends" 449,.str "doors" 450,.str "rooms" 451,.str "room" 452,.str "deed" 453,.str "far" 454]
def o220:=tu []
def o221:=nw "named_rooms" (tp 21) 0 .none .none
def o222:=co [.str "named_rooms" 445,.str "named_rooms" 446,cp 447,i0 84,i0 3,i0 0,i0 0,i0 3,r 204,.bool true,i0 181,r 205,.none,r 206,r 207,r 208,i0 455,i0 84,cp 456]
def o223:=fw "named_rooms" (tp 21) 3 zah (r 209)
def o224:=tu []
def o225:=nf []
def o226:=tu [.str "rooms" 461,.str "room" 462]
def o227:=tu []
def o228:=nw "refuse_rooms" (tp 22) 0 .none .none
def o229:=co [.str "refuse_rooms" 458,.str "refuse_rooms" 459,cp 460,i0 91,i0 1,i0 0,i0 0,i0 3,r 211,.bool true,i0 181,r 212,.none,r 213,r 214,r 215,i0 463,i0 91,cp 464]
def o230:=fw "refuse_rooms" (tp 22) 3 zah (r 216)
def o231:=tu []
def o232:=nf []
def o233:=tu [.str "rooms" 469,.str "doors" 470,.str "leads" 471,.str "room" 472,.str "deed" 473,.str "far" 474]
def o234:=tu []
def o235:=nw "leads_of" (tp 23) 0 .none .none
def o236:=co [.str "leads_of" 466,.str "leads_of" 467,cp 468,i0 95,i0 2,i0 0,i0 0,i0 3,r 218,.bool true,i0 181,r 219,.none,r 220,r 221,r 222,i0 475,i0 95,cp 476]
def o237:=fw "leads_of" (tp 23) 3 zah (r 223)
def T9 (P:Params):BT:=ns (T8 P) [(3,o215 P),(12,o216),(204,o217),(205,o218),(206,o219),(207,o220),(208,o221),(209,o222),(210,o223),(211,o224),(212,o225),(213,o226),(214,o227),(215,o228),(216,o229),(217,o230),(218,o231),(219,o232),(220,o233),(221,o234),(222,o235),(223,o236),(224,o237)]
theorem pc9:Hd.Pc pp env T8 204 441 T9 225 478 118 [tp 19,tp 20,tp 21,tp 22,tp 23] ⟨51,0,81,16⟩ ⟨95,0,103,16⟩:=by
 intro w
 kernel_rfl
def g11 (P:Params):List DictEntry:=g10 P++[en P "Machine" 595 (.ref 317)]
def o238 (P:Params):Obj:=⟨.type "dict",none,.dict ⟨en P "__name__" 165 zah::g11 P⟩ 31,#[]⟩
def o239:=nf [i0 1,i0 0,r 20,i0 5,i0 0,r 27,i0 7,i0 0,r 40,i0 9,i0 0,r 52,i0 11,i0 0,r 64,i0 13,i0 0,r 76,i0 15,i0 0,r 88,i0 17,i0 0,r 100,i0 24,i0 0,r 110,i0 29,i0 0,r 117,i0 39,i0 0,r 124,i0 46,i0 0,r 131,i0 51,i0 0,r 138,i0 84,i0 0,r 209,i0 91,i0 0,r 216,i0 95,i0 0,r 223,i0 104,i0 0,r 230]
def o240:=tu []
def o241:Obj:=zaa
def g12 (P:Params):List DictEntry:=[en P "__qualname__" 487 (.str "Machine" 486),en P "__firstlineno__" 489 (.int 104 488),en P "__init__" 495 (.ref 237),en P "deeds" 502 (.ref 244),en P "begin" 509 (.ref 251),en P "rooms" 516 (.ref 258),en P "ends" 523 (.ref 265),en P "knows" 530 (.ref 272),en P "require_room" 538 (.ref 279),en P "at" 546 (.ref 286),en P "to" 555 (.ref 293),en P "is_end" 563 (.ref 300),en P "goes" 572 (.ref 307),en P "behind" 582 (.ref 314),en P "__static_attributes__" 588 (.ref 315)]
def o242 (P:Params):Obj:=⟨.type "dict",none,.dict ⟨en P "__module__" 485 zah::g12 P⟩ 16,#[]⟩
def o243:=tu []
def o244:=nf [i0 106,i0 4,r 236,i0 121,i0 4,r 243,i0 124,i0 4,r 250,i0 127,i0 4,r 257,i0 130,i0 4,r 264,i0 133,i0 4,r 271,i0 136,i0 4,r 278,i0 140,i0 4,r 285,i0 144,i0 4,r 292,i0 149,i0 4,r 299,i0 153,i0 4,r 306,i0 158,i0 4,r 313]
def o245:=cv "Machine" 480 "Machine" 481 482 104 0 0 0 0 228 181 229 483 484
def o246:=fm 230 3 227 "roomward.machines" 441 0
def o247:=tu [.none]
def o248:=tu []
def o249:=nf []
def o250:=nv "__init__" "Machine.__init__" (aD (tp 24) 0) 0 .none .none
def o251:=co [.str "__init__" 490,.str "Machine.__init__" 491,cp 492,i0 106,i0 6,i0 0,i0 0,i0 3,r 233,.bool true,i0 181,r 234,.none,.none,.none,r 235,i0 493,i0 106,cp 494]
def o252:Obj:=fu ⟨"__init__","Machine.__init__",aH (aD (tp 24) 0),.stmts (aG (aD (tp 24) 0)),aB (aD (tp 24) 0),3,[],r 232,.none,.none,.str "roomward.machines" 441,none,r 236,.none,0⟩
def o253:=tu []
def o254:=nf []
def o255:=tu [.str "self" 499]
def o256:=tu []
def o257:=nv "deeds" "Machine.deeds" (aD (tp 24) 1) 0 .none .none
def o258:=co [.str "deeds" 496,.str "Machine.deeds" 497,cp 498,i0 121,i0 1,i0 0,i0 0,i0 3,r 238,.bool true,i0 181,r 239,.none,r 240,r 241,r 242,i0 500,i0 121,cp 501]
def o259:=fv "deeds" "Machine.deeds" (aD (tp 24) 1) 3 zah (r 243)
def o260:=tu []
def o261:=nf []
def o262:=tu [.str "self" 506]
def o263:=tu []
def o264:=nv "begin" "Machine.begin" (aD (tp 24) 2) 0 .none .none
def o265:=co [.str "begin" 503,.str "Machine.begin" 504,cp 505,i0 124,i0 1,i0 0,i0 0,i0 3,r 245,.bool true,i0 181,r 246,.none,r 247,r 248,r 249,i0 507,i0 124,cp 508]
def o266:=fv "begin" "Machine.begin" (aD (tp 24) 2) 3 zah (r 250)
def o267:=tu []
def o268:=nf []
def o269:=tu [.str "self" 513]
def o270:=tu []
def o271:=nv "rooms" "Machine.rooms" (aD (tp 24) 3) 0 .none .none
def o272:=co [.str "rooms" 510,.str "Machine.rooms" 511,cp 512,i0 127,i0 1,i0 0,i0 0,i0 3,r 252,.bool true,i0 181,r 253,.none,r 254,r 255,r 256,i0 514,i0 127,cp 515]
def o273:=fv "rooms" "Machine.rooms" (aD (tp 24) 3) 3 zah (r 257)
def o274:=tu []
def o275:=nf []
def o276:=tu [.str "self" 520]
def o277:=tu []
def o278:=nv "ends" "Machine.ends" (aD (tp 24) 4) 0 .none .none
def o279:=co [.str "ends" 517,.str "Machine.ends" 518,cp 519,i0 130,i0 1,i0 0,i0 0,i0 3,r 259,.bool true,i0 181,r 260,.none,r 261,r 262,r 263,i0 521,i0 130,cp 522]
def o280:=fv "ends" "Machine.ends" (aD (tp 24) 4) 3 zah (r 264)
def o281:=tu []
def o282:=nf []
def o283:=tu [.str "self" 527]
def o284:=tu []
def o285:=nv "knows" "Machine.knows" (aD (tp 24) 5) 0 .none .none
def o286:=co [.str "knows" 524,.str "Machine.knows" 525,cp 526,i0 133,i0 1,i0 0,i0 0,i0 3,r 266,.bool true,i0 181,r 267,.none,r 268,r 269,r 270,i0 528,i0 133,cp 529]
def o287:=fv "knows" "Machine.knows" (aD (tp 24) 5) 3 zah (r 271)
def o288:=tu []
def o289:=nf []
def o290:=tu [.str "self" 534,.str "room" 535]
def o291:=tu []
def o292:=nv "require_room" "Machine.require_room" (aD (tp 24) 6) 0 .none .none
def o293:=co [.str "require_room" 531,.str "Machine.require_room" 532,cp 533,i0 136,i0 2,i0 0,i0 0,i0 3,r 273,.bool true,i0 181,r 274,.none,r 275,r 276,r 277,i0 536,i0 136,cp 537]
def o294:=fv "require_room" "Machine.require_room" (aD (tp 24) 6) 3 zah (r 278)
def o295:=tu []
def o296:=nf []
def o297:=tu [.str "self" 542,.str "room" 543]
def o298:=tu []
def o299:=nv "at" "Machine.at" (aD (tp 24) 7) 0 .none .none
def o300:=co [.str "at" 539,.str "Machine.at" 540,cp 541,i0 140,i0 2,i0 0,i0 0,i0 3,r 280,.bool true,i0 181,r 281,.none,r 282,r 283,r 284,i0 544,i0 140,cp 545]
def o301:=fv "at" "Machine.at" (aD (tp 24) 7) 3 zah (r 285)
def o302:=tu []
def o303:=nf []
def o304:=tu [.str "self" 550,.str "room" 551,.str "deed" 552]
def o305:=tu []
def o306:=nv "to" "Machine.to" (aD (tp 24) 8) 0 .none .none
def o307:=co [.str "to" 547,.str "Machine.to" 548,cp 549,i0 144,i0 3,i0 0,i0 0,i0 3,r 287,.bool true,i0 181,r 288,.none,r 289,r 290,r 291,i0 553,i0 144,cp 554]
def o308:=fv "to" "Machine.to" (aD (tp 24) 8) 3 zah (r 292)
def o309:=tu []
def o310:=nf []
def o311:=tu [.str "self" 559,.str "room" 560]
def o312:=tu []
def o313:=nv "is_end" "Machine.is_end" (aD (tp 24) 9) 0 .none .none
def o314:=co [.str "is_end" 556,.str "Machine.is_end" 557,cp 558,i0 149,i0 2,i0 0,i0 0,i0 3,r 294,.bool true,i0 181,r 295,.none,r 296,r 297,r 298,i0 561,i0 149,cp 562]
def o315:=fv "is_end" "Machine.is_end" (aD (tp 24) 9) 3 zah (r 299)
def o316:=tu []
def o317:=nf []
def o318:=tu [.str "self" 567,.str "room" 568,.str "deed" 569]
def o319:=tu []
def o320:=nv "goes" "Machine.goes" (aD (tp 24) 10) 0 .none .none
def o321:=co [.str "goes" 564,.str "Machine.goes" 565,cp 566,i0 153,i0 3,i0 0,i0 0,i0 3,r 301,.bool true,i0 181,r 302,.none,r 303,r 304,r 305,i0 570,i0 153,cp 571]
def o322:=fv "goes" "Machine.goes" (aD (tp 24) 10) 3 zah (r 306)
def o323:=tu []
def o324:=nf []
def o325:=tu [.str "self" 576,.str "row" 577,.str "room" 578,.str "deed" 579]
def o326:=tu []
def o327:=nv "behind" "Machine.behind" (aD (tp 24) 11) 0 .none .none
def o328:=co [.str "behind" 573,.str "Machine.behind" 574,cp 575,i0 158,i0 2,i0 0,i0 0,i0 3,r 308,.bool true,i0 181,r 309,.none,r 310,r 311,r 312,i0 580,i0 158,cp 581]
def o329:=fv "behind" "Machine.behind" (aD (tp 24) 11) 3 zah (r 313)
def o330:=tu [.str "deeds_made_of" 583,.str "end_marks" 584,.str "first_room" 585,.str "known_marks" 586,.str "leads" 587]
def g13 (P:Params):List DictEntry:=[en P "__firstlineno__" 489 (.int 104 488),en P "__init__" 495 (.ref 237),en P "deeds" 502 (.ref 244),en P "begin" 509 (.ref 251),en P "rooms" 516 (.ref 258),en P "ends" 523 (.ref 265),en P "knows" 530 (.ref 272),en P "require_room" 538 (.ref 279),en P "at" 546 (.ref 286),en P "to" 555 (.ref 293),en P "is_end" 563 (.ref 300),en P "goes" 572 (.ref 307),en P "behind" 582 (.ref 314),en P "__static_attributes__" 588 (.ref 315),en P "__dict__" 590 (.ref 318),en P "__weakref__" 592 (.ref 319),en P "__doc__" 593 .none]
def o331 (P:Params):Obj:=⟨.type "dict",none,.dict ⟨en P "__module__" 485 zah::g13 P⟩ 4,#[]⟩
def o332:Obj:=⟨.type "type",none,.cls ⟨"Machine",[.type "object"],[r 317,.type "object"],316,"Machine",true,[],[],false,none,false⟩,#[none,none,(some (.str "Machine" 478)),(some (.str "Machine" 486)),zae,zaj]⟩
def o333:Obj:=⟨.type "getset_descriptor",none,.fields #[.str "__dict__" 589,r 317,.builtin "function.__dict__",.builtin "function.__dict__#set"],#[]⟩
def o334:Obj:=⟨.type "getset_descriptor",none,.fields #[.str "__weakref__" 591,r 317,.builtin "ExceptionGroup.__weakref__",.none],#[]⟩
def o335:Obj:=⟨.type "super",none,.fields #[r 317,r 317,r 317],#[]⟩
def o336:Obj:=⟨.type "builtin_function_or_method",none,.fields #[.builtin "object.__init_subclass__",r 317],#[]⟩
def T10 (P:Params):BT:=ns (T9 P) [(3,o238 P),(12,o239),(225,o240),(226,o241),(227,o242 P),(228,o243),(229,o244),(230,o245),(231,o246),(232,o247),(233,o248),(234,o249),(235,o250),(236,o251),(237,o252),(238,o253),(239,o254),(240,o255),(241,o256),(242,o257),(243,o258),(244,o259),(245,o260),(246,o261),(247,o262),(248,o263),(249,o264),(250,o265),(251,o266),(252,o267),(253,o268),(254,o269),(255,o270),(256,o271),(257,o272),(258,o273),(259,o274),(260,o275),(261,o276),(262,o277),(263,o278),(264,o279),(265,o280),(266,o281),(267,o282),(268,o283),(269,o284),(270,o285),(271,o286),(272,o287),(273,o288),(274,o289),(275,o290),(276,o291),(277,o292),(278,o293),(279,o294),(280,o295),(281,o296),(282,o297),(283,o298),(284,o299),(285,o300),(286,o301),(287,o302),(288,o303),(289,o304),(290,o305),(291,o306),(292,o307),(293,o308),(294,o309),(295,o310),(296,o311),(297,o312),(298,o313),(299,o314),(300,o315),(301,o316),(302,o317),(303,o318),(304,o319),(305,o320),(306,o321),(307,o322),(308,o323),(309,o324),(310,o325),(311,o326),(312,o327),(313,o328),(314,o329),(315,o330),(316,o331 P),(317,o332),(318,o333),(319,o334),(320,o335),(321,o336)]
theorem pc10:Hd.Pc pp env T9 225 478 T10 322 596 575 [tp 24] ⟨95,0,103,16⟩ ⟨104,0,165,19⟩:=by
 intro w
 kernel_rfl
def g14 (P:Params):List DictEntry:=g11 P++[en P "rows_to" 612 (.ref 328),en P "come_to" 621 (.ref 335),en P "MOST_WOVEN" 625 (.int 7 624),en P "begin_of" 631 (.ref 340),en P "far_of" 637 (.ref 345),en P "all_at_ends" 643 (.ref 350),en P "known_of" 652 (.ref 357)]
def o337 (P:Params):Obj:=⟨.type "dict",none,.dict ⟨en P "__name__" 165 zai::g14 P⟩ 38,#[]⟩
def o338:=nf [i0 1,i0 0,r 20,i0 5,i0 0,r 27,i0 7,i0 0,r 40,i0 9,i0 0,r 52,i0 11,i0 0,r 64,i0 13,i0 0,r 76,i0 15,i0 0,r 88,i0 17,i0 0,r 100,i0 24,i0 0,r 110,i0 29,i0 0,r 117,i0 39,i0 0,r 124,i0 46,i0 0,r 131,i0 51,i0 0,r 138,i0 84,i0 0,r 209,i0 91,i0 0,r 216,i0 95,i0 0,r 223,i0 104,i0 0,r 230,i0 167,i0 0,r 327,i0 181,i0 0,r 334,i0 185,i0 0,r 339,i0 187,i0 0,r 344,i0 190,i0 0,r 349,i0 192,i0 0,r 356]
def o339:=tu []
def o340:=nf []
def o341:=tu [.str "begin" 601,.str "doors" 602,.str "most" 603,.str "rows" 604,.str "rooms" 605,.str "place" 606,.str "room" 607,.str "deed" 608,.str "far" 609]
def o342:=tu []
def o343:=nw "rows_to" (tp 26) 0 .none .none
def o344:=co [.str "rows_to" 598,.str "rows_to" 599,cp 600,i0 167,i0 3,i0 0,i0 0,i0 3,r 322,.bool true,i0 181,r 323,.none,r 324,r 325,r 326,i0 610,i0 167,cp 611]
def o345:=fw "rows_to" (tp 26) 3 (.str "roomward.coming" 596) (r 327)
def o346:=tu []
def o347:=nf []
def o348:=tu [.str "begin" 616,.str "doors" 617,.str "most" 618]
def o349:=tu []
def o350:=nw "come_to" (tp 27) 0 .none .none
def o351:=co [.str "come_to" 613,.str "come_to" 614,cp 615,i0 181,i0 3,i0 0,i0 0,i0 3,r 329,.bool true,i0 181,r 330,.none,r 331,r 332,r 333,i0 619,i0 181,cp 620]
def o352:=fw "come_to" (tp 27) 3 (.str "roomward.coming" 596) (r 334)
def o353:=tu []
def o354:=nf []
def o355:=nw "begin_of" (tp 30) 0 .none .none
def o356:=co [.str "begin_of" 626,.str "begin_of" 627,cp 628,i0 185,i0 1,i0 0,i0 0,i0 3,r 336,.bool true,i0 181,r 337,.none,.none,.none,r 338,i0 629,i0 185,cp 630]
def o357:=fw "begin_of" (tp 30) 3 zai (r 339)
def o358:=tu []
def o359:=nf []
def o360:=nw "far_of" (tp 31) 0 .none .none
def o361:=co [.str "far_of" 632,.str "far_of" 633,cp 634,i0 187,i0 3,i0 0,i0 0,i0 3,r 341,.bool true,i0 181,r 342,.none,.none,.none,r 343,i0 635,i0 187,cp 636]
def o362:=fw "far_of" (tp 31) 3 zai (r 344)
def o363:=tu []
def o364:=nf []
def o365:=nw "all_at_ends" (tp 32) 0 .none .none
def o366:=co [.str "all_at_ends" 638,.str "all_at_ends" 639,cp 640,i0 190,i0 2,i0 0,i0 0,i0 3,r 346,.bool true,i0 181,r 347,.none,.none,.none,r 348,i0 641,i0 190,cp 642]
def o367:=fw "all_at_ends" (tp 32) 3 zai (r 349)
def o368:=tu []
def o369:=nf []
def o370:=tu [.str "machines" 647,.str "known" 648,.str "machine" 649]
def o371:=tu []
def o372:=nw "known_of" (tp 33) 0 .none .none
def o373:=co [.str "known_of" 644,.str "known_of" 645,cp 646,i0 192,i0 1,i0 0,i0 0,i0 3,r 351,.bool true,i0 181,r 352,.none,r 353,r 354,r 355,i0 650,i0 192,cp 651]
def o374:=fw "known_of" (tp 33) 3 zai (r 356)
def T11 (P:Params):BT:=ns (T10 P) [(3,o337 P),(12,o338),(322,o339),(323,o340),(324,o341),(325,o342),(326,o343),(327,o344),(328,o345),(329,o346),(330,o347),(331,o348),(332,o349),(333,o350),(334,o351),(335,o352),(336,o353),(337,o354),(338,o355),(339,o356),(340,o357),(341,o358),(342,o359),(343,o360),(344,o361),(345,o362),(346,o363),(347,o364),(348,o365),(349,o366),(350,o367),(351,o368),(352,o369),(353,o370),(354,o371),(355,o372),(356,o373),(357,o374)]
theorem pc11:Hd.Pc pp env T10 322 596 T11 358 653 205 [tp 25,tp 26,tp 27,tp 28,tp 29,tp 30,tp 31,tp 32,tp 33] ⟨104,0,165,19⟩ ⟨192,0,196,26⟩:=by
 intro w
 kernel_rfl
def g15 (P:Params):List DictEntry:=g14 P++[en P "Woven" 740 (.ref 426)]
def o375 (P:Params):Obj:=⟨.type "dict",none,.dict ⟨en P "__name__" 165 zai::g15 P⟩ 39,#[]⟩
def o376:=nf [i0 1,i0 0,r 20,i0 5,i0 0,r 27,i0 7,i0 0,r 40,i0 9,i0 0,r 52,i0 11,i0 0,r 64,i0 13,i0 0,r 76,i0 15,i0 0,r 88,i0 17,i0 0,r 100,i0 24,i0 0,r 110,i0 29,i0 0,r 117,i0 39,i0 0,r 124,i0 46,i0 0,r 131,i0 51,i0 0,r 138,i0 84,i0 0,r 209,i0 91,i0 0,r 216,i0 95,i0 0,r 223,i0 104,i0 0,r 230,i0 167,i0 0,r 327,i0 181,i0 0,r 334,i0 185,i0 0,r 339,i0 187,i0 0,r 344,i0 190,i0 0,r 349,i0 192,i0 0,r 356,i0 197,i0 0,r 363]
def o377:=tu []
def o378:Obj:=zaa
def g16 (P:Params):List DictEntry:=[en P "__qualname__" 662 (.str "Woven" 661),en P "__firstlineno__" 664 (.int 197 663),en P "__init__" 672 (.ref 371),en P "deeds" 679 (.ref 378),en P "begin" 686 (.ref 385),en P "knows" 693 (.ref 392),en P "at" 699 (.ref 397),en P "to" 708 (.ref 404),en P "is_end" 716 (.ref 411),en P "ways" 722 (.ref 416),en P "rooms" 730 (.ref 423),en P "__static_attributes__" 733 (.ref 424)]
def o379 (P:Params):Obj:=⟨.type "dict",none,.dict ⟨en P "__module__" 660 zai::g16 P⟩ 13,#[]⟩
def o380:=tu []
def o381:=nf [i0 199,i0 4,r 370,i0 205,i0 4,r 377,i0 208,i0 4,r 384,i0 211,i0 4,r 391,i0 214,i0 4,r 396,i0 217,i0 4,r 403,i0 223,i0 4,r 410,i0 226,i0 4,r 415,i0 229,i0 4,r 422]
def o382:=cv "Woven" 655 "Woven" 656 657 197 0 0 0 0 361 181 362 658 659
def o383:=fm 363 3 360 "roomward.weaving" 622 0
def o384:=tu []
def o385:=nf []
def o386:=tu [.str "self" 668,.str "machines" 669]
def o387:=tu []
def o388:=nv "__init__" "Woven.__init__" (aD (tp 34) 0) 0 .none .none
def o389:=co [.str "__init__" 665,.str "Woven.__init__" 666,cp 667,i0 199,i0 2,i0 0,i0 0,i0 3,r 365,.bool true,i0 181,r 366,.none,r 367,r 368,r 369,i0 670,i0 199,cp 671]
def o390:=fv "__init__" "Woven.__init__" (aD (tp 34) 0) 3 zai (r 370)
def o391:=tu []
def o392:=nf []
def o393:=tu [.str "self" 676]
def o394:=tu []
def o395:=nv "deeds" "Woven.deeds" (aD (tp 34) 1) 0 .none .none
def o396:=co [.str "deeds" 673,.str "Woven.deeds" 674,cp 675,i0 205,i0 1,i0 0,i0 0,i0 3,r 372,.bool true,i0 181,r 373,.none,r 374,r 375,r 376,i0 677,i0 205,cp 678]
def o397:=fv "deeds" "Woven.deeds" (aD (tp 34) 1) 3 zai (r 377)
def o398:=tu []
def o399:=nf []
def o400:=tu [.str "self" 683]
def o401:=tu []
def o402:=nv "begin" "Woven.begin" (aD (tp 34) 2) 0 .none .none
def o403:=co [.str "begin" 680,.str "Woven.begin" 681,cp 682,i0 208,i0 1,i0 0,i0 0,i0 3,r 379,.bool true,i0 181,r 380,.none,r 381,r 382,r 383,i0 684,i0 208,cp 685]
def o404:=fv "begin" "Woven.begin" (aD (tp 34) 2) 3 zai (r 384)
def o405:=tu []
def o406:=nf []
def o407:=tu [.str "self" 690]
def o408:=tu []
def o409:=nv "knows" "Woven.knows" (aD (tp 34) 3) 0 .none .none
def o410:=co [.str "knows" 687,.str "Woven.knows" 688,cp 689,i0 211,i0 1,i0 0,i0 0,i0 3,r 386,.bool true,i0 181,r 387,.none,r 388,r 389,r 390,i0 691,i0 211,cp 692]
def o411:=fv "knows" "Woven.knows" (aD (tp 34) 3) 3 zai (r 391)
def o412:=tu []
def o413:=nf []
def o414:=nv "at" "Woven.at" (aD (tp 34) 4) 0 .none .none
def o415:=co [.str "at" 694,.str "Woven.at" 695,cp 696,i0 214,i0 2,i0 0,i0 0,i0 3,r 393,.bool true,i0 181,r 394,.none,.none,.none,r 395,i0 697,i0 214,cp 698]
def o416:=fv "at" "Woven.at" (aD (tp 34) 4) 3 zai (r 396)
def o417:=tu []
def o418:=nf []
def o419:=tu [.str "self" 703,.str "room" 704,.str "deed" 705]
def o420:=tu []
def o421:=nv "to" "Woven.to" (aD (tp 34) 5) 0 .none .none
def o422:=co [.str "to" 700,.str "Woven.to" 701,cp 702,i0 217,i0 3,i0 0,i0 0,i0 3,r 398,.bool true,i0 181,r 399,.none,r 400,r 401,r 402,i0 706,i0 217,cp 707]
def o423:=fv "to" "Woven.to" (aD (tp 34) 5) 3 zai (r 403)
def o424:=tu []
def o425:=nf []
def o426:=tu [.str "self" 712,.str "room" 713]
def o427:=tu []
def o428:=nv "is_end" "Woven.is_end" (aD (tp 34) 6) 0 .none .none
def o429:=co [.str "is_end" 709,.str "Woven.is_end" 710,cp 711,i0 223,i0 2,i0 0,i0 0,i0 3,r 405,.bool true,i0 181,r 406,.none,r 407,r 408,r 409,i0 714,i0 223,cp 715]
def o430:=fv "is_end" "Woven.is_end" (aD (tp 34) 6) 3 zai (r 410)
def o431:=tu []
def o432:=nf []
def o433:=nv "ways" "Woven.ways" (aD (tp 34) 7) 0 .none .none
def o434:=co [.str "ways" 717,.str "Woven.ways" 718,cp 719,i0 226,i0 2,i0 0,i0 0,i0 3,r 412,.bool true,i0 181,r 413,.none,.none,.none,r 414,i0 720,i0 226,cp 721]
def o435:=fv "ways" "Woven.ways" (aD (tp 34) 7) 3 zai (r 415)
def o436:=tu []
def o437:=nf []
def o438:=tu [.str "self" 726]
def o439:=tu [.str "self" 727]
def o440:=nv "rooms" "Woven.rooms" (aD (tp 34) 8) 0 .none .none
def o441:=co [.str "rooms" 723,.str "Woven.rooms" 724,cp 725,i0 229,i0 1,i0 0,i0 0,i0 3,r 417,.bool true,i0 181,r 418,.none,r 419,r 420,r 421,i0 728,i0 229,cp 729]
def o442:=fv "rooms" "Woven.rooms" (aD (tp 34) 8) 3 zai (r 422)
def o443:=tu [.str "known_marks" 731,.str "machines" 732]
def g17 (P:Params):List DictEntry:=[en P "__firstlineno__" 664 (.int 197 663),en P "__init__" 672 (.ref 371),en P "deeds" 679 (.ref 378),en P "begin" 686 (.ref 385),en P "knows" 693 (.ref 392),en P "at" 699 (.ref 397),en P "to" 708 (.ref 404),en P "is_end" 716 (.ref 411),en P "ways" 722 (.ref 416),en P "rooms" 730 (.ref 423),en P "__static_attributes__" 733 (.ref 424),en P "__dict__" 735 (.ref 427),en P "__weakref__" 737 (.ref 428),en P "__doc__" 738 .none]
def o444 (P:Params):Obj:=⟨.type "dict",none,.dict ⟨en P "__module__" 660 zai::g17 P⟩ 4,#[]⟩
def o445:Obj:=⟨.type "type",none,.cls ⟨"Woven",[.type "object"],[r 426,.type "object"],425,"Woven",true,[],[],false,none,false⟩,#[none,none,(some (.str "Woven" 653)),(some (.str "Woven" 661)),zae,zaj]⟩
def o446:Obj:=⟨.type "getset_descriptor",none,.fields #[.str "__dict__" 734,r 426,.builtin "function.__dict__",.builtin "function.__dict__#set"],#[]⟩
def o447:Obj:=⟨.type "getset_descriptor",none,.fields #[.str "__weakref__" 736,r 426,.builtin "ExceptionGroup.__weakref__",.none],#[]⟩
def o448:Obj:=⟨.type "super",none,.fields #[r 426,r 426,r 426],#[]⟩
def o449:Obj:=⟨.type "builtin_function_or_method",none,.fields #[.builtin "object.__init_subclass__",r 426],#[]⟩
def T12 (P:Params):BT:=ns (T11 P) [(3,o375 P),(12,o376),(358,o377),(359,o378),(360,o379 P),(361,o380),(362,o381),(363,o382),(364,o383),(365,o384),(366,o385),(367,o386),(368,o387),(369,o388),(370,o389),(371,o390),(372,o391),(373,o392),(374,o393),(375,o394),(376,o395),(377,o396),(378,o397),(379,o398),(380,o399),(381,o400),(382,o401),(383,o402),(384,o403),(385,o404),(386,o405),(387,o406),(388,o407),(389,o408),(390,o409),(391,o410),(392,o411),(393,o412),(394,o413),(395,o414),(396,o415),(397,o416),(398,o417),(399,o418),(400,o419),(401,o420),(402,o421),(403,o422),(404,o423),(405,o424),(406,o425),(407,o426),(408,o427),(409,o428),(410,o429),(411,o430),(412,o431),(413,o432),(414,o433),(415,o434),(416,o435),(417,o436),(418,o437),(419,o438),(420,o439),(421,o440),(422,o441),(423,o442),(424,o443),(425,o444 P),(426,o445),(427,o446),(428,o447),(429,o448),(430,o449)]
theorem pc12:Hd.Pc pp env T11 358 653 T12 431 741 470 [tp 34] ⟨192,0,196,26⟩ ⟨197,0,230,78⟩:=by
 intro w
 kernel_rfl
def g18 (P:Params):List DictEntry:=g15 P++[en P "made_one" 746 (.ref 435),en P "MOST_TIMES" 750 (.int 6 749),en P "MOST_RULES" 752 (.int 4 751),en P "MOST_DEEP" 754 (.int 3 753),en P "is_times" 761 (.ref 442),en P "Rule" 795 (.ref 466)]
def o450 (P:Params):Obj:=⟨.type "dict",none,.dict ⟨en P "__name__" 165 zab::g18 P⟩ 45,#[]⟩
def o451:=nf [i0 1,i0 0,r 20,i0 5,i0 0,r 27,i0 7,i0 0,r 40,i0 9,i0 0,r 52,i0 11,i0 0,r 64,i0 13,i0 0,r 76,i0 15,i0 0,r 88,i0 17,i0 0,r 100,i0 24,i0 0,r 110,i0 29,i0 0,r 117,i0 39,i0 0,r 124,i0 46,i0 0,r 131,i0 51,i0 0,r 138,i0 84,i0 0,r 209,i0 91,i0 0,r 216,i0 95,i0 0,r 223,i0 104,i0 0,r 230,i0 167,i0 0,r 327,i0 181,i0 0,r 334,i0 185,i0 0,r 339,i0 187,i0 0,r 344,i0 190,i0 0,r 349,i0 192,i0 0,r 356,i0 197,i0 0,r 363,i0 231,i0 0,r 434,i0 245,i0 0,r 441,i0 247,i0 0,r 448]
def o452:=tu []
def o453:=nf []
def o454:=nw "made_one" (tp 35) 0 .none .none
def o455:=co [.str "made_one" 741,.str "made_one" 742,cp 743,i0 231,i0 1,i0 0,i0 0,i0 3,r 431,.bool true,i0 181,r 432,.none,.none,.none,r 433,i0 744,i0 231,cp 745]
def o456:=fw "made_one" (tp 35) 3 zai (r 434)
def o457:=tu []
def o458:=nf []
def o459:=tu [.str "thing" 758]
def o460:=tu []
def o461:=nw "is_times" (tp 40) 0 .none .none
def o462:=co [.str "is_times" 755,.str "is_times" 756,cp 757,i0 245,i0 1,i0 0,i0 0,i0 3,r 436,.bool true,i0 181,r 437,.none,r 438,r 439,r 440,i0 759,i0 245,cp 760]
def o463:=fw "is_times" (tp 40) 3 zab (r 441)
def o464:=tu []
def o465:Obj:=zaa
def g19 (P:Params):List DictEntry:=[en P "__qualname__" 771 (.str "Rule" 770),en P "__firstlineno__" 773 (.int 247 772),en P "about" 780 (.ref 456),en P "deep" 787 (.ref 463),en P "__static_attributes__" 788 (.ref 464)]
def o466 (P:Params):Obj:=⟨.type "dict",none,.dict ⟨en P "__module__" 769 zab::g19 P⟩ 6,#[]⟩
def o467:=tu []
def o468:=nf [i0 249,i0 4,r 455,i0 252,i0 4,r 462]
def o469:=cv "Rule" 764 "Rule" 765 766 247 0 0 0 0 446 181 447 767 768
def o470:=fm 448 3 445 "roomward.rules" 747 0
def o471:=tu []
def o472:=nf []
def o473:=tu [.str "self" 777]
def o474:=tu []
def o475:=nv "about" "Rule.about" (aD (tp 41) 0) 0 .none .none
def o476:=co [.str "about" 774,.str "Rule.about" 775,cp 776,i0 249,i0 1,i0 0,i0 0,i0 3,r 450,.bool true,i0 181,r 451,.none,r 452,r 453,r 454,i0 778,i0 249,cp 779]
def o477:=fv "about" "Rule.about" (aD (tp 41) 0) 3 zab (r 455)
def o478:=tu []
def o479:=nf []
def o480:=tu [.str "self" 784]
def o481:=tu []
def o482:=nv "deep" "Rule.deep" (aD (tp 41) 1) 0 .none .none
def o483:=co [.str "deep" 781,.str "Rule.deep" 782,cp 783,i0 252,i0 1,i0 0,i0 0,i0 3,r 457,.bool true,i0 181,r 458,.none,r 459,r 460,r 461,i0 785,i0 252,cp 786]
def o484:=fv "deep" "Rule.deep" (aD (tp 41) 1) 3 zab (r 462)
def o485:=tu []
def g20 (P:Params):List DictEntry:=[en P "__firstlineno__" 773 (.int 247 772),en P "about" 780 (.ref 456),en P "deep" 787 (.ref 463),en P "__static_attributes__" 788 (.ref 464),en P "__dict__" 790 (.ref 467),en P "__weakref__" 792 (.ref 468),en P "__doc__" 793 .none]
def o486 (P:Params):Obj:=⟨.type "dict",none,.dict ⟨en P "__module__" 769 zab::g20 P⟩ 4,#[]⟩
def o487:Obj:=⟨.type "type",none,.cls ⟨"Rule",[.type "object"],[r 466,.type "object"],465,"Rule",true,[],[],false,none,false⟩,#[none,none,zan,zao,zae,zaj]⟩
def o488:Obj:=⟨.type "getset_descriptor",none,.fields #[.str "__dict__" 789,r 466,.builtin "function.__dict__",.builtin "function.__dict__#set"],#[]⟩
def o489:Obj:=⟨.type "getset_descriptor",none,.fields #[.str "__weakref__" 791,r 466,.builtin "ExceptionGroup.__weakref__",.none],#[]⟩
def o490:Obj:=⟨.type "super",none,.fields #[r 466,r 466,r 466],#[]⟩
def o491:Obj:=⟨.type "builtin_function_or_method",none,.fields #[.builtin "object.__init_subclass__",r 466],#[]⟩
def T13 (P:Params):BT:=ns (T12 P) [(3,o450 P),(12,o451),(431,o452),(432,o453),(433,o454),(434,o455),(435,o456),(436,o457),(437,o458),(438,o459),(439,o460),(440,o461),(441,o462),(442,o463),(443,o464),(444,o465),(445,o466 P),(446,o467),(447,o468),(448,o469),(449,o470),(450,o471),(451,o472),(452,o473),(453,o474),(454,o475),(455,o476),(456,o477),(457,o478),(458,o479),(459,o480),(460,o481),(461,o482),(462,o483),(463,o484),(464,o485),(465,o486 P),(466,o487),(467,o488),(468,o489),(469,o490),(470,o491)]
theorem pc13:Hd.Pc pp env T12 431 741 T13 471 796 343 [tp 35,tp 36,tp 37,tp 38,tp 39,tp 40,tp 41] ⟨197,0,230,78⟩ ⟨247,0,253,16⟩:=by
 intro w
 kernel_rfl
def g21 (P:Params):List DictEntry:=g18 P++[en P "Never" 835 (.ref 501)]
def o492 (P:Params):Obj:=⟨.type "dict",none,.dict ⟨en P "__name__" 165 zab::g21 P⟩ 46,#[]⟩
def o493:=nf [i0 1,i0 0,r 20,i0 5,i0 0,r 27,i0 7,i0 0,r 40,i0 9,i0 0,r 52,i0 11,i0 0,r 64,i0 13,i0 0,r 76,i0 15,i0 0,r 88,i0 17,i0 0,r 100,i0 24,i0 0,r 110,i0 29,i0 0,r 117,i0 39,i0 0,r 124,i0 46,i0 0,r 131,i0 51,i0 0,r 138,i0 84,i0 0,r 209,i0 91,i0 0,r 216,i0 95,i0 0,r 223,i0 104,i0 0,r 230,i0 167,i0 0,r 327,i0 181,i0 0,r 334,i0 185,i0 0,r 339,i0 187,i0 0,r 344,i0 190,i0 0,r 349,i0 192,i0 0,r 356,i0 197,i0 0,r 363,i0 231,i0 0,r 434,i0 245,i0 0,r 441,i0 247,i0 0,r 448,i0 254,i0 0,r 476]
def o494:Obj:=⟨.type "type",none,.cls ⟨"Rule",[.type "object"],[r 466,.type "object"],465,"Rule",true,[],[r 501],false,none,false⟩,#[none,none,zan,zao,zae,zaj]⟩
def o495:=tu [r 466]
def o496:Obj:=zaa
def g22 (P:Params):List DictEntry:=[en P "__qualname__" 805 (.str "Never" 804),en P "__firstlineno__" 807 (.int 254 806),en P "__init__" 815 (.ref 484),en P "about" 822 (.ref 491),en P "machine" 830 (.ref 498),en P "__static_attributes__" 832 (.ref 499)]
def o497 (P:Params):Obj:=⟨.type "dict",none,.dict ⟨en P "__module__" 803 zab::g22 P⟩ 7,#[]⟩
def o498:=tu []
def o499:=nf [i0 256,i0 4,r 483,i0 259,i0 4,r 490,i0 262,i0 4,r 497]
def o500:=cv "Never" 798 "Never" 799 800 254 0 0 0 0 474 181 475 801 802
def o501:=fm 476 3 473 "roomward.rules" 747 0
def o502:=tu []
def o503:=nf []
def o504:=tu [.str "self" 811,.str "deed" 812]
def o505:=tu []
def o506:=nv "__init__" "Never.__init__" (aD (tp 42) 0) 0 .none .none
def o507:=co [.str "__init__" 808,.str "Never.__init__" 809,cp 810,i0 256,i0 2,i0 0,i0 0,i0 3,r 478,.bool true,i0 181,r 479,.none,r 480,r 481,r 482,i0 813,i0 256,cp 814]
def o508:=fv "__init__" "Never.__init__" (aD (tp 42) 0) 3 zab (r 483)
def o509:=tu []
def o510:=nf []
def o511:=tu [.str "self" 819]
def o512:=tu []
def o513:=nv "about" "Never.about" (aD (tp 42) 1) 0 .none .none
def o514:=co [.str "about" 816,.str "Never.about" 817,cp 818,i0 259,i0 1,i0 0,i0 0,i0 3,r 485,.bool true,i0 181,r 486,.none,r 487,r 488,r 489,i0 820,i0 259,cp 821]
def o515:=fv "about" "Never.about" (aD (tp 42) 1) 3 zab (r 490)
def o516:=tu []
def o517:=nf []
def o518:=tu [.str "self" 826,.str "deeds" 827]
def o519:=tu []
def o520:=nv "machine" "Never.machine" (aD (tp 42) 2) 0 .none .none
def o521:=co [.str "machine" 823,.str "Never.machine" 824,cp 825,i0 262,i0 2,i0 0,i0 0,i0 3,r 492,.bool true,i0 181,r 493,.none,r 494,r 495,r 496,i0 828,i0 262,cp 829]
def o522:=fv "machine" "Never.machine" (aD (tp 42) 2) 3 zab (r 497)
def o523:=tu [.str "deed" 831]
def g23 (P:Params):List DictEntry:=[en P "__firstlineno__" 807 (.int 254 806),en P "__init__" 815 (.ref 484),en P "about" 822 (.ref 491),en P "machine" 830 (.ref 498),en P "__static_attributes__" 832 (.ref 499),en P "__doc__" 833 .none]
def o524 (P:Params):Obj:=⟨.type "dict",none,.dict ⟨en P "__module__" 803 zab::g23 P⟩ 2,#[]⟩
def o525:Obj:=⟨.type "type",none,.cls ⟨"Never",[r 466],[r 501,r 466,.type "object"],500,"Never",true,[],[],false,none,false⟩,#[(some (r 471)),none,(some (.str "Never" 796)),(some (.str "Never" 804)),zae,zaj]⟩
def o526:Obj:=⟨.type "super",none,.fields #[r 501,r 501,r 501],#[]⟩
def o527:Obj:=⟨.type "builtin_function_or_method",none,.fields #[.builtin "object.__init_subclass__",r 501],#[]⟩
def T14 (P:Params):BT:=ns (T13 P) [(3,o492 P),(12,o493),(466,o494),(471,o495),(472,o496),(473,o497 P),(474,o498),(475,o499),(476,o500),(477,o501),(478,o502),(479,o503),(480,o504),(481,o505),(482,o506),(483,o507),(484,o508),(485,o509),(486,o510),(487,o511),(488,o512),(489,o513),(490,o514),(491,o515),(492,o516),(493,o517),(494,o518),(495,o519),(496,o520),(497,o521),(498,o522),(499,o523),(500,o524 P),(501,o525),(502,o526),(503,o527)]
theorem pc14:Hd.Pc pp env T13 471 796 T14 504 836 309 [tp 42] ⟨247,0,253,16⟩ ⟨254,0,263,61⟩:=by
 intro w
 kernel_rfl
def g24 (P:Params):List DictEntry:=g21 P++[en P "Most" 875 (.ref 532)]
def o528 (P:Params):Obj:=⟨.type "dict",none,.dict ⟨en P "__name__" 165 zab::g24 P⟩ 47,#[]⟩
def o529:=nf [i0 1,i0 0,r 20,i0 5,i0 0,r 27,i0 7,i0 0,r 40,i0 9,i0 0,r 52,i0 11,i0 0,r 64,i0 13,i0 0,r 76,i0 15,i0 0,r 88,i0 17,i0 0,r 100,i0 24,i0 0,r 110,i0 29,i0 0,r 117,i0 39,i0 0,r 124,i0 46,i0 0,r 131,i0 51,i0 0,r 138,i0 84,i0 0,r 209,i0 91,i0 0,r 216,i0 95,i0 0,r 223,i0 104,i0 0,r 230,i0 167,i0 0,r 327,i0 181,i0 0,r 334,i0 185,i0 0,r 339,i0 187,i0 0,r 344,i0 190,i0 0,r 349,i0 192,i0 0,r 356,i0 197,i0 0,r 363,i0 231,i0 0,r 434,i0 245,i0 0,r 441,i0 247,i0 0,r 448,i0 254,i0 0,r 476,i0 264,i0 0,r 509]
def o530:Obj:=⟨.type "type",none,.cls ⟨"Rule",[.type "object"],[r 466,.type "object"],465,"Rule",true,[],[r 501,r 532],false,none,false⟩,#[none,none,zan,zao,zae,zaj]⟩
def o531:=tu [r 466]
def o532:Obj:=zaa
def g25 (P:Params):List DictEntry:=[en P "__qualname__" 845 (.str "Most" 844),en P "__firstlineno__" 847 (.int 264 846),en P "__init__" 856 (.ref 517),en P "about" 863 (.ref 524),en P "machine" 869 (.ref 529),en P "__static_attributes__" 872 (.ref 530)]
def o533 (P:Params):Obj:=⟨.type "dict",none,.dict ⟨en P "__module__" 843 zab::g25 P⟩ 7,#[]⟩
def o534:=tu []
def o535:=nf [i0 266,i0 4,r 516,i0 272,i0 4,r 523,i0 275,i0 4,r 528]
def o536:=cv "Most" 838 "Most" 839 840 264 0 0 0 0 507 181 508 841 842
def o537:=fm 509 3 506 "roomward.rules" 747 0
def o538:=tu []
def o539:=nf []
def o540:=tu [.str "self" 851,.str "deed" 852,.str "many" 853]
def o541:=tu []
def o542:=nv "__init__" "Most.__init__" (aD (tp 43) 0) 0 .none .none
def o543:=co [.str "__init__" 848,.str "Most.__init__" 849,cp 850,i0 266,i0 3,i0 0,i0 0,i0 3,r 511,.bool true,i0 181,r 512,.none,r 513,r 514,r 515,i0 854,i0 266,cp 855]
def o544:=fv "__init__" "Most.__init__" (aD (tp 43) 0) 3 zab (r 516)
def o545:=tu []
def o546:=nf []
def o547:=tu [.str "self" 860]
def o548:=tu []
def o549:=nv "about" "Most.about" (aD (tp 43) 1) 0 .none .none
def o550:=co [.str "about" 857,.str "Most.about" 858,cp 859,i0 272,i0 1,i0 0,i0 0,i0 3,r 518,.bool true,i0 181,r 519,.none,r 520,r 521,r 522,i0 861,i0 272,cp 862]
def o551:=fv "about" "Most.about" (aD (tp 43) 1) 3 zab (r 523)
def o552:=tu []
def o553:=nf []
def o554:=nv "machine" "Most.machine" (aD (tp 43) 2) 0 .none .none
def o555:=co [.str "machine" 864,.str "Most.machine" 865,cp 866,i0 275,i0 2,i0 0,i0 0,i0 3,r 525,.bool true,i0 181,r 526,.none,.none,.none,r 527,i0 867,i0 275,cp 868]
def o556:=fv "machine" "Most.machine" (aD (tp 43) 2) 3 zab (r 528)
def o557:=tu [.str "deed" 870,.str "many" 871]
def g26 (P:Params):List DictEntry:=[en P "__firstlineno__" 847 (.int 264 846),en P "__init__" 856 (.ref 517),en P "about" 863 (.ref 524),en P "machine" 869 (.ref 529),en P "__static_attributes__" 872 (.ref 530),en P "__doc__" 873 .none]
def o558 (P:Params):Obj:=⟨.type "dict",none,.dict ⟨en P "__module__" 843 zab::g26 P⟩ 2,#[]⟩
def o559:Obj:=⟨.type "type",none,.cls ⟨"Most",[r 466],[r 532,r 466,.type "object"],531,"Most",true,[],[],false,none,false⟩,#[(some (r 504)),none,(some (.str "Most" 836)),(some (.str "Most" 844)),zae,zaj]⟩
def o560:Obj:=⟨.type "super",none,.fields #[r 532,r 532,r 532],#[]⟩
def o561:Obj:=⟨.type "builtin_function_or_method",none,.fields #[.builtin "object.__init_subclass__",r 532],#[]⟩
def T15 (P:Params):BT:=ns (T14 P) [(3,o528 P),(12,o529),(466,o530),(504,o531),(505,o532),(506,o533 P),(507,o534),(508,o535),(509,o536),(510,o537),(511,o538),(512,o539),(513,o540),(514,o541),(515,o542),(516,o543),(517,o544),(518,o545),(519,o546),(520,o547),(521,o548),(522,o549),(523,o550),(524,o551),(525,o552),(526,o553),(527,o554),(528,o555),(529,o556),(530,o557),(531,o558 P),(532,o559),(533,o560),(534,o561)]
theorem pc15:Hd.Pc pp env T14 504 836 T15 535 876 307 [tp 43] ⟨254,0,263,61⟩ ⟨264,0,278,63⟩:=by
 intro w
 kernel_rfl
def g27 (P:Params):List DictEntry:=g24 P++[en P "OfTwo" 909 (.ref 558)]
def o562 (P:Params):Obj:=⟨.type "dict",none,.dict ⟨en P "__name__" 165 zab::g27 P⟩ 48,#[]⟩
def o563:=nf [i0 1,i0 0,r 20,i0 5,i0 0,r 27,i0 7,i0 0,r 40,i0 9,i0 0,r 52,i0 11,i0 0,r 64,i0 13,i0 0,r 76,i0 15,i0 0,r 88,i0 17,i0 0,r 100,i0 24,i0 0,r 110,i0 29,i0 0,r 117,i0 39,i0 0,r 124,i0 46,i0 0,r 131,i0 51,i0 0,r 138,i0 84,i0 0,r 209,i0 91,i0 0,r 216,i0 95,i0 0,r 223,i0 104,i0 0,r 230,i0 167,i0 0,r 327,i0 181,i0 0,r 334,i0 185,i0 0,r 339,i0 187,i0 0,r 344,i0 190,i0 0,r 349,i0 192,i0 0,r 356,i0 197,i0 0,r 363,i0 231,i0 0,r 434,i0 245,i0 0,r 441,i0 247,i0 0,r 448,i0 254,i0 0,r 476,i0 264,i0 0,r 509,i0 279,i0 0,r 540]
def o564:Obj:=⟨.type "type",none,.cls ⟨"Rule",[.type "object"],[r 466,.type "object"],465,"Rule",true,[],[r 501,r 532,r 558],false,none,false⟩,#[none,none,zan,zao,zae,zaj]⟩
def o565:=tu [r 466]
def o566:Obj:=zaa
def g28 (P:Params):List DictEntry:=[en P "__qualname__" 885 (.str "OfTwo" 884),en P "__firstlineno__" 887 (.int 279 886),en P "__init__" 896 (.ref 548),en P "about" 903 (.ref 555),en P "__static_attributes__" 906 (.ref 556)]
def o567 (P:Params):Obj:=⟨.type "dict",none,.dict ⟨en P "__module__" 883 zab::g28 P⟩ 6,#[]⟩
def o568:=tu []
def o569:=nf [i0 281,i0 4,r 547,i0 287,i0 4,r 554]
def o570:=cv "OfTwo" 878 "OfTwo" 879 880 279 0 0 0 0 538 181 539 881 882
def o571:=fm 540 3 537 "roomward.rules" 747 0
def o572:=tu []
def o573:=nf []
def o574:=tu [.str "self" 891,.str "one" 892,.str "other" 893]
def o575:=tu []
def o576:=nv "__init__" "OfTwo.__init__" (aD (tp 44) 0) 0 .none .none
def o577:=co [.str "__init__" 888,.str "OfTwo.__init__" 889,cp 890,i0 281,i0 3,i0 0,i0 0,i0 3,r 542,.bool true,i0 181,r 543,.none,r 544,r 545,r 546,i0 894,i0 281,cp 895]
def o578:=fv "__init__" "OfTwo.__init__" (aD (tp 44) 0) 3 zab (r 547)
def o579:=tu []
def o580:=nf []
def o581:=tu [.str "self" 900]
def o582:=tu []
def o583:=nv "about" "OfTwo.about" (aD (tp 44) 1) 0 .none .none
def o584:=co [.str "about" 897,.str "OfTwo.about" 898,cp 899,i0 287,i0 1,i0 0,i0 0,i0 3,r 549,.bool true,i0 181,r 550,.none,r 551,r 552,r 553,i0 901,i0 287,cp 902]
def o585:=fv "about" "OfTwo.about" (aD (tp 44) 1) 3 zab (r 554)
def o586:=tu [.str "one" 904,.str "other" 905]
def g29 (P:Params):List DictEntry:=[en P "__firstlineno__" 887 (.int 279 886),en P "__init__" 896 (.ref 548),en P "about" 903 (.ref 555),en P "__static_attributes__" 906 (.ref 556),en P "__doc__" 907 .none]
def o587 (P:Params):Obj:=⟨.type "dict",none,.dict ⟨en P "__module__" 883 zab::g29 P⟩ 2,#[]⟩
def o588:Obj:=⟨.type "type",none,.cls ⟨"OfTwo",[r 466],[r 558,r 466,.type "object"],557,"OfTwo",true,[],[],false,none,false⟩,zal⟩
def o589:Obj:=⟨.type "super",none,.fields #[r 558,r 558,r 558],#[]⟩
def o590:Obj:=⟨.type "builtin_function_or_method",none,.fields #[.builtin "object.__init_subclass__",r 558],#[]⟩
def T16 (P:Params):BT:=ns (T15 P) [(3,o562 P),(12,o563),(466,o564),(535,o565),(536,o566),(537,o567 P),(538,o568),(539,o569),(540,o570),(541,o571),(542,o572),(543,o573),(544,o574),(545,o575),(546,o576),(547,o577),(548,o578),(549,o579),(550,o580),(551,o581),(552,o582),(553,o583),(554,o584),(555,o585),(556,o586),(557,o587 P),(558,o588),(559,o589),(560,o590)]
theorem pc16:Hd.Pc pp env T15 535 876 T16 561 910 279 [tp 44] ⟨264,0,278,63⟩ ⟨279,0,288,37⟩:=by
 intro w
 kernel_rfl
def g30 (P:Params):List DictEntry:=g27 P++[en P "Ahead" 943 (.ref 584)]
def o591 (P:Params):Obj:=⟨.type "dict",none,.dict ⟨en P "__name__" 165 zab::g30 P⟩ 49,#[]⟩
def o592:=nf [i0 1,i0 0,r 20,i0 5,i0 0,r 27,i0 7,i0 0,r 40,i0 9,i0 0,r 52,i0 11,i0 0,r 64,i0 13,i0 0,r 76,i0 15,i0 0,r 88,i0 17,i0 0,r 100,i0 24,i0 0,r 110,i0 29,i0 0,r 117,i0 39,i0 0,r 124,i0 46,i0 0,r 131,i0 51,i0 0,r 138,i0 84,i0 0,r 209,i0 91,i0 0,r 216,i0 95,i0 0,r 223,i0 104,i0 0,r 230,i0 167,i0 0,r 327,i0 181,i0 0,r 334,i0 185,i0 0,r 339,i0 187,i0 0,r 344,i0 190,i0 0,r 349,i0 192,i0 0,r 356,i0 197,i0 0,r 363,i0 231,i0 0,r 434,i0 245,i0 0,r 441,i0 247,i0 0,r 448,i0 254,i0 0,r 476,i0 264,i0 0,r 509,i0 279,i0 0,r 540,i0 289,i0 0,r 566]
def o593:Obj:=⟨.type "type",none,.cls ⟨"OfTwo",[r 466],[r 558,r 466,.type "object"],557,"OfTwo",true,[],[r 584],false,none,false⟩,zal⟩
def o594:=tu [r 558]
def o595:Obj:=zaa
def g31 (P:Params):List DictEntry:=[en P "__qualname__" 919 (.str "Ahead" 918),en P "__firstlineno__" 921 (.int 289 920),en P "__init__" 930 (.ref 574),en P "machine" 939 (.ref 581),en P "__static_attributes__" 940 (.ref 582)]
def o596 (P:Params):Obj:=⟨.type "dict",none,.dict ⟨en P "__module__" 917 zab::g31 P⟩ 6,#[]⟩
def o597:=tu []
def o598:=nf [i0 291,i0 4,r 573,i0 294,i0 4,r 580]
def o599:=cv "Ahead" 912 "Ahead" 913 914 289 0 0 0 0 564 181 565 915 916
def o600:=fm 566 3 563 "roomward.rules" 747 0
def o601:=tu []
def o602:=nf []
def o603:=tu [.str "self" 925,.str "first" 926,.str "later" 927]
def o604:=tu []
def o605:=nv "__init__" "Ahead.__init__" (aD (tp 45) 0) 0 .none .none
def o606:=co [.str "__init__" 922,.str "Ahead.__init__" 923,cp 924,i0 291,i0 3,i0 0,i0 0,i0 3,r 568,.bool true,i0 181,r 569,.none,r 570,r 571,r 572,i0 928,i0 291,cp 929]
def o607:=fv "__init__" "Ahead.__init__" (aD (tp 45) 0) 3 zab (r 573)
def o608:=tu []
def o609:=nf []
def o610:=tu [.str "self" 934,.str "deeds" 935,.str "doors" 936]
def o611:=tu []
def o612:=nv "machine" "Ahead.machine" (aD (tp 45) 1) 0 .none .none
def o613:=co [.str "machine" 931,.str "Ahead.machine" 932,cp 933,i0 294,i0 2,i0 0,i0 0,i0 3,r 575,.bool true,i0 181,r 576,.none,r 577,r 578,r 579,i0 937,i0 294,cp 938]
def o614:=fv "machine" "Ahead.machine" (aD (tp 45) 1) 3 zab (r 580)
def o615:=tu []
def g32 (P:Params):List DictEntry:=[en P "__firstlineno__" 921 (.int 289 920),en P "__init__" 930 (.ref 574),en P "machine" 939 (.ref 581),en P "__static_attributes__" 940 (.ref 582),en P "__doc__" 941 .none]
def o616 (P:Params):Obj:=⟨.type "dict",none,.dict ⟨en P "__module__" 917 zab::g32 P⟩ 2,#[]⟩
def o617:Obj:=⟨.type "type",none,.cls ⟨"Ahead",[r 558],[r 584,r 558,r 466,.type "object"],583,"Ahead",true,[],[],false,none,false⟩,#[(some (r 561)),none,(some (.str "Ahead" 910)),(some (.str "Ahead" 918)),zae,zaj]⟩
def o618:Obj:=⟨.type "super",none,.fields #[r 584,r 584,r 584],#[]⟩
def o619:Obj:=⟨.type "builtin_function_or_method",none,.fields #[.builtin "object.__init_subclass__",r 584],#[]⟩
def T17 (P:Params):BT:=ns (T16 P) [(3,o591 P),(12,o592),(558,o593),(561,o594),(562,o595),(563,o596 P),(564,o597),(565,o598),(566,o599),(567,o600),(568,o601),(569,o602),(570,o603),(571,o604),(572,o605),(573,o606),(574,o607),(575,o608),(576,o609),(577,o610),(578,o611),(579,o612),(580,o613),(581,o614),(582,o615),(583,o616 P),(584,o617),(585,o618),(586,o619)]
theorem pc17:Hd.Pc pp env T16 561 910 T17 587 944 293 [tp 45] ⟨279,0,288,37⟩ ⟨289,0,296,56⟩:=by
 intro w
 kernel_rfl
def g33 (P:Params):List DictEntry:=g30 P++[en P "Turns" 977 (.ref 610)]
def o620 (P:Params):Obj:=⟨.type "dict",none,.dict ⟨en P "__name__" 165 zab::g33 P⟩ 50,#[]⟩
def o621:=nf [i0 1,i0 0,r 20,i0 5,i0 0,r 27,i0 7,i0 0,r 40,i0 9,i0 0,r 52,i0 11,i0 0,r 64,i0 13,i0 0,r 76,i0 15,i0 0,r 88,i0 17,i0 0,r 100,i0 24,i0 0,r 110,i0 29,i0 0,r 117,i0 39,i0 0,r 124,i0 46,i0 0,r 131,i0 51,i0 0,r 138,i0 84,i0 0,r 209,i0 91,i0 0,r 216,i0 95,i0 0,r 223,i0 104,i0 0,r 230,i0 167,i0 0,r 327,i0 181,i0 0,r 334,i0 185,i0 0,r 339,i0 187,i0 0,r 344,i0 190,i0 0,r 349,i0 192,i0 0,r 356,i0 197,i0 0,r 363,i0 231,i0 0,r 434,i0 245,i0 0,r 441,i0 247,i0 0,r 448,i0 254,i0 0,r 476,i0 264,i0 0,r 509,i0 279,i0 0,r 540,i0 289,i0 0,r 566,i0 297,i0 0,r 592]
def o622:Obj:=⟨.type "type",none,.cls ⟨"OfTwo",[r 466],[r 558,r 466,.type "object"],557,"OfTwo",true,[],[r 584,r 610],false,none,false⟩,zal⟩
def o623:=tu [r 558]
def o624:Obj:=zaa
def g34 (P:Params):List DictEntry:=[en P "__qualname__" 953 (.str "Turns" 952),en P "__firstlineno__" 955 (.int 297 954),en P "__init__" 964 (.ref 600),en P "machine" 973 (.ref 607),en P "__static_attributes__" 974 (.ref 608)]
def o625 (P:Params):Obj:=⟨.type "dict",none,.dict ⟨en P "__module__" 951 zab::g34 P⟩ 6,#[]⟩
def o626:=tu []
def o627:=nf [i0 299,i0 4,r 599,i0 302,i0 4,r 606]
def o628:=cv "Turns" 946 "Turns" 947 948 297 0 0 0 0 590 181 591 949 950
def o629:=fm 592 3 589 "roomward.rules" 747 0
def o630:=tu []
def o631:=nf []
def o632:=tu [.str "self" 959,.str "one" 960,.str "other" 961]
def o633:=tu []
def o634:=nv "__init__" "Turns.__init__" (aD (tp 46) 0) 0 .none .none
def o635:=co [.str "__init__" 956,.str "Turns.__init__" 957,cp 958,i0 299,i0 3,i0 0,i0 0,i0 3,r 594,.bool true,i0 181,r 595,.none,r 596,r 597,r 598,i0 962,i0 299,cp 963]
def o636:=fv "__init__" "Turns.__init__" (aD (tp 46) 0) 3 zab (r 599)
def o637:=tu []
def o638:=nf []
def o639:=tu [.str "self" 968,.str "deeds" 969,.str "doors" 970]
def o640:=tu []
def o641:=nv "machine" "Turns.machine" (aD (tp 46) 1) 0 .none .none
def o642:=co [.str "machine" 965,.str "Turns.machine" 966,cp 967,i0 302,i0 2,i0 0,i0 0,i0 3,r 601,.bool true,i0 181,r 602,.none,r 603,r 604,r 605,i0 971,i0 302,cp 972]
def o643:=fv "machine" "Turns.machine" (aD (tp 46) 1) 3 zab (r 606)
def o644:=tu []
def g35 (P:Params):List DictEntry:=[en P "__firstlineno__" 955 (.int 297 954),en P "__init__" 964 (.ref 600),en P "machine" 973 (.ref 607),en P "__static_attributes__" 974 (.ref 608),en P "__doc__" 975 .none]
def o645 (P:Params):Obj:=⟨.type "dict",none,.dict ⟨en P "__module__" 951 zab::g35 P⟩ 2,#[]⟩
def o646:Obj:=⟨.type "type",none,.cls ⟨"Turns",[r 558],[r 610,r 558,r 466,.type "object"],609,"Turns",true,[],[],false,none,false⟩,#[(some (r 587)),none,(some (.str "Turns" 944)),(some (.str "Turns" 952)),zae,zaj]⟩
def o647:Obj:=⟨.type "super",none,.fields #[r 610,r 610,r 610],#[]⟩
def o648:Obj:=⟨.type "builtin_function_or_method",none,.fields #[.builtin "object.__init_subclass__",r 610],#[]⟩
def T18 (P:Params):BT:=ns (T17 P) [(3,o620 P),(12,o621),(558,o622),(587,o623),(588,o624),(589,o625 P),(590,o626),(591,o627),(592,o628),(593,o629),(594,o630),(595,o631),(596,o632),(597,o633),(598,o634),(599,o635),(600,o636),(601,o637),(602,o638),(603,o639),(604,o640),(605,o641),(606,o642),(607,o643),(608,o644),(609,o645 P),(610,o646),(611,o647),(612,o648)]
theorem pc18:Hd.Pc pp env T17 587 944 T18 613 978 293 [tp 46] ⟨289,0,296,56⟩ ⟨297,0,304,56⟩:=by
 intro w
 kernel_rfl
def g36 (P:Params):List DictEntry:=g33 P++[en P "Hold" 1011 (.ref 636)]
def o649 (P:Params):Obj:=⟨.type "dict",none,.dict ⟨en P "__name__" 165 zab::g36 P⟩ 51,#[]⟩
def o650:=nf [i0 1,i0 0,r 20,i0 5,i0 0,r 27,i0 7,i0 0,r 40,i0 9,i0 0,r 52,i0 11,i0 0,r 64,i0 13,i0 0,r 76,i0 15,i0 0,r 88,i0 17,i0 0,r 100,i0 24,i0 0,r 110,i0 29,i0 0,r 117,i0 39,i0 0,r 124,i0 46,i0 0,r 131,i0 51,i0 0,r 138,i0 84,i0 0,r 209,i0 91,i0 0,r 216,i0 95,i0 0,r 223,i0 104,i0 0,r 230,i0 167,i0 0,r 327,i0 181,i0 0,r 334,i0 185,i0 0,r 339,i0 187,i0 0,r 344,i0 190,i0 0,r 349,i0 192,i0 0,r 356,i0 197,i0 0,r 363,i0 231,i0 0,r 434,i0 245,i0 0,r 441,i0 247,i0 0,r 448,i0 254,i0 0,r 476,i0 264,i0 0,r 509,i0 279,i0 0,r 540,i0 289,i0 0,r 566,i0 297,i0 0,r 592,i0 305,i0 0,r 618]
def o651:Obj:=⟨.type "type",none,.cls ⟨"OfTwo",[r 466],[r 558,r 466,.type "object"],557,"OfTwo",true,[],[r 584,r 610,r 636],false,none,false⟩,zal⟩
def o652:=tu [r 558]
def o653:Obj:=zaa
def g37 (P:Params):List DictEntry:=[en P "__qualname__" 987 (.str "Hold" 986),en P "__firstlineno__" 989 (.int 305 988),en P "__init__" 998 (.ref 626),en P "machine" 1007 (.ref 633),en P "__static_attributes__" 1008 (.ref 634)]
def o654 (P:Params):Obj:=⟨.type "dict",none,.dict ⟨en P "__module__" 985 zab::g37 P⟩ 6,#[]⟩
def o655:=tu []
def o656:=nf [i0 307,i0 4,r 625,i0 310,i0 4,r 632]
def o657:=cv "Hold" 980 "Hold" 981 982 305 0 0 0 0 616 181 617 983 984
def o658:=fm 618 3 615 "roomward.rules" 747 0
def o659:=tu []
def o660:=nf []
def o661:=tu [.str "self" 993,.str "deed" 994,.str "other" 995]
def o662:=tu []
def o663:=nv "__init__" "Hold.__init__" (aD (tp 47) 0) 0 .none .none
def o664:=co [.str "__init__" 990,.str "Hold.__init__" 991,cp 992,i0 307,i0 3,i0 0,i0 0,i0 3,r 620,.bool true,i0 181,r 621,.none,r 622,r 623,r 624,i0 996,i0 307,cp 997]
def o665:=fv "__init__" "Hold.__init__" (aD (tp 47) 0) 3 zab (r 625)
def o666:=tu []
def o667:=nf []
def o668:=tu [.str "self" 1002,.str "deeds" 1003,.str "doors" 1004]
def o669:=tu []
def o670:=nv "machine" "Hold.machine" (aD (tp 47) 1) 0 .none .none
def o671:=co [.str "machine" 999,.str "Hold.machine" 1000,cp 1001,i0 310,i0 2,i0 0,i0 0,i0 3,r 627,.bool true,i0 181,r 628,.none,r 629,r 630,r 631,i0 1005,i0 310,cp 1006]
def o672:=fv "machine" "Hold.machine" (aD (tp 47) 1) 3 zab (r 632)
def o673:=tu []
def g38 (P:Params):List DictEntry:=[en P "__firstlineno__" 989 (.int 305 988),en P "__init__" 998 (.ref 626),en P "machine" 1007 (.ref 633),en P "__static_attributes__" 1008 (.ref 634),en P "__doc__" 1009 .none]
def o674 (P:Params):Obj:=⟨.type "dict",none,.dict ⟨en P "__module__" 985 zab::g38 P⟩ 2,#[]⟩
def o675:Obj:=⟨.type "type",none,.cls ⟨"Hold",[r 558],[r 636,r 558,r 466,.type "object"],635,"Hold",true,[],[],false,none,false⟩,#[(some (r 613)),none,(some (.str "Hold" 978)),(some (.str "Hold" 986)),zae,zaj]⟩
def o676:Obj:=⟨.type "super",none,.fields #[r 636,r 636,r 636],#[]⟩
def o677:Obj:=⟨.type "builtin_function_or_method",none,.fields #[.builtin "object.__init_subclass__",r 636],#[]⟩
def T19 (P:Params):BT:=ns (T18 P) [(3,o649 P),(12,o650),(558,o651),(613,o652),(614,o653),(615,o654 P),(616,o655),(617,o656),(618,o657),(619,o658),(620,o659),(621,o660),(622,o661),(623,o662),(624,o663),(625,o664),(626,o665),(627,o666),(628,o667),(629,o668),(630,o669),(631,o670),(632,o671),(633,o672),(634,o673),(635,o674 P),(636,o675),(637,o676),(638,o677)]
theorem pc19:Hd.Pc pp env T18 613 978 T19 639 1012 293 [tp 47] ⟨297,0,304,56⟩ ⟨305,0,312,56⟩:=by
 intro w
 kernel_rfl
def g39 (P:Params):List DictEntry:=g36 P++[en P "Answer" 1045 (.ref 662)]
def o678 (P:Params):Obj:=⟨.type "dict",none,.dict ⟨en P "__name__" 165 zab::g39 P⟩ 52,#[]⟩
def o679:=nf [i0 1,i0 0,r 20,i0 5,i0 0,r 27,i0 7,i0 0,r 40,i0 9,i0 0,r 52,i0 11,i0 0,r 64,i0 13,i0 0,r 76,i0 15,i0 0,r 88,i0 17,i0 0,r 100,i0 24,i0 0,r 110,i0 29,i0 0,r 117,i0 39,i0 0,r 124,i0 46,i0 0,r 131,i0 51,i0 0,r 138,i0 84,i0 0,r 209,i0 91,i0 0,r 216,i0 95,i0 0,r 223,i0 104,i0 0,r 230,i0 167,i0 0,r 327,i0 181,i0 0,r 334,i0 185,i0 0,r 339,i0 187,i0 0,r 344,i0 190,i0 0,r 349,i0 192,i0 0,r 356,i0 197,i0 0,r 363,i0 231,i0 0,r 434,i0 245,i0 0,r 441,i0 247,i0 0,r 448,i0 254,i0 0,r 476,i0 264,i0 0,r 509,i0 279,i0 0,r 540,i0 289,i0 0,r 566,i0 297,i0 0,r 592,i0 305,i0 0,r 618,i0 313,i0 0,r 644]
def o680:Obj:=⟨.type "type",none,.cls ⟨"OfTwo",[r 466],[r 558,r 466,.type "object"],557,"OfTwo",true,[],[r 584,r 610,r 636,r 662],false,none,false⟩,zal⟩
def o681:=tu [r 558]
def o682:Obj:=zaa
def g40 (P:Params):List DictEntry:=[en P "__qualname__" 1021 (.str "Answer" 1020),en P "__firstlineno__" 1023 (.int 313 1022),en P "__init__" 1032 (.ref 652),en P "machine" 1041 (.ref 659),en P "__static_attributes__" 1042 (.ref 660)]
def o683 (P:Params):Obj:=⟨.type "dict",none,.dict ⟨en P "__module__" 1019 zab::g40 P⟩ 6,#[]⟩
def o684:=tu []
def o685:=nf [i0 315,i0 4,r 651,i0 318,i0 4,r 658]
def o686:=cv "Answer" 1014 "Answer" 1015 1016 313 0 0 0 0 642 181 643 1017 1018
def o687:=fm 644 3 641 "roomward.rules" 747 0
def o688:=tu []
def o689:=nf []
def o690:=tu [.str "self" 1027,.str "deed" 1028,.str "other" 1029]
def o691:=tu []
def o692:=nv "__init__" "Answer.__init__" (aD (tp 48) 0) 0 .none .none
def o693:=co [.str "__init__" 1024,.str "Answer.__init__" 1025,cp 1026,i0 315,i0 3,i0 0,i0 0,i0 3,r 646,.bool true,i0 181,r 647,.none,r 648,r 649,r 650,i0 1030,i0 315,cp 1031]
def o694:=fv "__init__" "Answer.__init__" (aD (tp 48) 0) 3 zab (r 651)
def o695:=tu []
def o696:=nf []
def o697:=tu [.str "self" 1036,.str "deeds" 1037,.str "doors" 1038]
def o698:=tu []
def o699:=nv "machine" "Answer.machine" (aD (tp 48) 1) 0 .none .none
def o700:=co [.str "machine" 1033,.str "Answer.machine" 1034,cp 1035,i0 318,i0 2,i0 0,i0 0,i0 3,r 653,.bool true,i0 181,r 654,.none,r 655,r 656,r 657,i0 1039,i0 318,cp 1040]
def o701:=fv "machine" "Answer.machine" (aD (tp 48) 1) 3 zab (r 658)
def o702:=tu []
def g41 (P:Params):List DictEntry:=[en P "__firstlineno__" 1023 (.int 313 1022),en P "__init__" 1032 (.ref 652),en P "machine" 1041 (.ref 659),en P "__static_attributes__" 1042 (.ref 660),en P "__doc__" 1043 .none]
def o703 (P:Params):Obj:=⟨.type "dict",none,.dict ⟨en P "__module__" 1019 zab::g41 P⟩ 2,#[]⟩
def o704:Obj:=⟨.type "type",none,.cls ⟨"Answer",[r 558],[r 662,r 558,r 466,.type "object"],661,"Answer",true,[],[],false,none,false⟩,#[(some (r 639)),none,(some (.str "Answer" 1012)),(some (.str "Answer" 1020)),zae,zaj]⟩
def o705:Obj:=⟨.type "super",none,.fields #[r 662,r 662,r 662],#[]⟩
def o706:Obj:=⟨.type "builtin_function_or_method",none,.fields #[.builtin "object.__init_subclass__",r 662],#[]⟩
def T20 (P:Params):BT:=ns (T19 P) [(3,o678 P),(12,o679),(558,o680),(639,o681),(640,o682),(641,o683 P),(642,o684),(643,o685),(644,o686),(645,o687),(646,o688),(647,o689),(648,o690),(649,o691),(650,o692),(651,o693),(652,o694),(653,o695),(654,o696),(655,o697),(656,o698),(657,o699),(658,o700),(659,o701),(660,o702),(661,o703 P),(662,o704),(663,o705),(664,o706)]
theorem pc20:Hd.Pc pp env T19 639 1012 T20 665 1046 293 [tp 48] ⟨305,0,312,56⟩ ⟨313,0,320,50⟩:=by
 intro w
 kernel_rfl
def g42 (P:Params):List DictEntry:=g39 P++[en P "All" 1091 (.ref 698)]
def o707 (P:Params):Obj:=⟨.type "dict",none,.dict ⟨en P "__name__" 165 zab::g42 P⟩ 53,#[]⟩
def o708:=nf [i0 1,i0 0,r 20,i0 5,i0 0,r 27,i0 7,i0 0,r 40,i0 9,i0 0,r 52,i0 11,i0 0,r 64,i0 13,i0 0,r 76,i0 15,i0 0,r 88,i0 17,i0 0,r 100,i0 24,i0 0,r 110,i0 29,i0 0,r 117,i0 39,i0 0,r 124,i0 46,i0 0,r 131,i0 51,i0 0,r 138,i0 84,i0 0,r 209,i0 91,i0 0,r 216,i0 95,i0 0,r 223,i0 104,i0 0,r 230,i0 167,i0 0,r 327,i0 181,i0 0,r 334,i0 185,i0 0,r 339,i0 187,i0 0,r 344,i0 190,i0 0,r 349,i0 192,i0 0,r 356,i0 197,i0 0,r 363,i0 231,i0 0,r 434,i0 245,i0 0,r 441,i0 247,i0 0,r 448,i0 254,i0 0,r 476,i0 264,i0 0,r 509,i0 279,i0 0,r 540,i0 289,i0 0,r 566,i0 297,i0 0,r 592,i0 305,i0 0,r 618,i0 313,i0 0,r 644,i0 321,i0 0,r 670]
def o709:Obj:=⟨.type "type",none,.cls ⟨"Rule",[.type "object"],[r 466,.type "object"],465,"Rule",true,[],[r 501,r 532,r 558,r 698],false,none,false⟩,#[none,none,zan,zao,zae,zaj]⟩
def o710:=tu [r 466]
def o711:Obj:=zaa
def g43 (P:Params):List DictEntry:=[en P "__qualname__" 1055 (.str "All" 1054),en P "__firstlineno__" 1057 (.int 321 1056),en P "__init__" 1065 (.ref 678),en P "about" 1074 (.ref 685),en P "deep" 1080 (.ref 690),en P "machine" 1086 (.ref 695),en P "__static_attributes__" 1088 (.ref 696)]
def o712 (P:Params):Obj:=⟨.type "dict",none,.dict ⟨en P "__module__" 1053 zab::g43 P⟩ 8,#[]⟩
def o713:=tu []
def o714:=nf [i0 323,i0 4,r 677,i0 330,i0 4,r 684,i0 336,i0 4,r 689,i0 339,i0 4,r 694]
def o715:=cv "All" 1048 "All" 1049 1050 321 0 0 0 0 668 181 669 1051 1052
def o716:=fm 670 3 667 "roomward.rules" 747 0
def o717:=tu []
def o718:=nf []
def o719:=tu [.str "self" 1061,.str "rules" 1062]
def o720:=tu []
def o721:=nv "__init__" "All.__init__" (aD (tp 49) 0) 0 .none .none
def o722:=co [.str "__init__" 1058,.str "All.__init__" 1059,cp 1060,i0 323,i0 2,i0 0,i0 0,i0 3,r 672,.bool true,i0 181,r 673,.none,r 674,r 675,r 676,i0 1063,i0 323,cp 1064]
def o723:=fv "__init__" "All.__init__" (aD (tp 49) 0) 3 zab (r 677)
def o724:=tu []
def o725:=nf []
def o726:=tu [.str "self" 1069,.str "deeds" 1070,.str "rule" 1071]
def o727:=tu []
def o728:=nv "about" "All.about" (aD (tp 49) 1) 0 .none .none
def o729:=co [.str "about" 1066,.str "All.about" 1067,cp 1068,i0 330,i0 1,i0 0,i0 0,i0 3,r 679,.bool true,i0 181,r 680,.none,r 681,r 682,r 683,i0 1072,i0 330,cp 1073]
def o730:=fv "about" "All.about" (aD (tp 49) 1) 3 zab (r 684)
def o731:=tu []
def o732:=nf []
def o733:=nv "deep" "All.deep" (aD (tp 49) 2) 0 .none .none
def o734:=co [.str "deep" 1075,.str "All.deep" 1076,cp 1077,i0 336,i0 1,i0 0,i0 0,i0 3,r 686,.bool true,i0 181,r 687,.none,.none,.none,r 688,i0 1078,i0 336,cp 1079]
def o735:=fv "deep" "All.deep" (aD (tp 49) 2) 3 zab (r 689)
def o736:=tu []
def o737:=nf []
def o738:=nv "machine" "All.machine" (aD (tp 49) 3) 0 .none .none
def o739:=co [.str "machine" 1081,.str "All.machine" 1082,cp 1083,i0 339,i0 2,i0 0,i0 0,i0 3,r 691,.bool true,i0 181,r 692,.none,.none,.none,r 693,i0 1084,i0 339,cp 1085]
def o740:=fv "machine" "All.machine" (aD (tp 49) 3) 3 zab (r 694)
def o741:=tu [.str "rules" 1087]
def g44 (P:Params):List DictEntry:=[en P "__firstlineno__" 1057 (.int 321 1056),en P "__init__" 1065 (.ref 678),en P "about" 1074 (.ref 685),en P "deep" 1080 (.ref 690),en P "machine" 1086 (.ref 695),en P "__static_attributes__" 1088 (.ref 696),en P "__doc__" 1089 .none]
def o742 (P:Params):Obj:=⟨.type "dict",none,.dict ⟨en P "__module__" 1053 zab::g44 P⟩ 2,#[]⟩
def o743:Obj:=⟨.type "type",none,.cls ⟨"All",[r 466],[r 698,r 466,.type "object"],697,"All",true,[],[],false,none,false⟩,#[(some (r 665)),none,(some (.str "All" 1046)),(some (.str "All" 1054)),zae,zaj]⟩
def o744:Obj:=⟨.type "super",none,.fields #[r 698,r 698,r 698],#[]⟩
def o745:Obj:=⟨.type "builtin_function_or_method",none,.fields #[.builtin "object.__init_subclass__",r 698],#[]⟩
def T21 (P:Params):BT:=ns (T20 P) [(3,o707 P),(12,o708),(466,o709),(665,o710),(666,o711),(667,o712 P),(668,o713),(669,o714),(670,o715),(671,o716),(672,o717),(673,o718),(674,o719),(675,o720),(676,o721),(677,o722),(678,o723),(679,o724),(680,o725),(681,o726),(682,o727),(683,o728),(684,o729),(685,o730),(686,o731),(687,o732),(688,o733),(689,o734),(690,o735),(691,o736),(692,o737),(693,o738),(694,o739),(695,o740),(696,o741),(697,o742 P),(698,o743),(699,o744),(700,o745)]
theorem pc21:Hd.Pc pp env T20 665 1046 T21 701 1092 335 [tp 49] ⟨313,0,320,50⟩ ⟨321,0,343,76⟩:=by
 intro w
 kernel_rfl
def g45 (P:Params):List DictEntry:=g42 P++[en P "Told" 1124 (.ref 724),en P "keeps" 1133 (.ref 733),en P "_law_mixed" 1144 (.ref 740),en P "_law_cell_at" 1152 (.ref 747)]
def o746 (P:Params):Obj:=⟨.type "dict",none,.dict ⟨en P "__name__" 165 zad::g45 P⟩ 57,#[]⟩
def o747:=nf [i0 1,i0 0,r 20,i0 5,i0 0,r 27,i0 7,i0 0,r 40,i0 9,i0 0,r 52,i0 11,i0 0,r 64,i0 13,i0 0,r 76,i0 15,i0 0,r 88,i0 17,i0 0,r 100,i0 24,i0 0,r 110,i0 29,i0 0,r 117,i0 39,i0 0,r 124,i0 46,i0 0,r 131,i0 51,i0 0,r 138,i0 84,i0 0,r 209,i0 91,i0 0,r 216,i0 95,i0 0,r 223,i0 104,i0 0,r 230,i0 167,i0 0,r 327,i0 181,i0 0,r 334,i0 185,i0 0,r 339,i0 187,i0 0,r 344,i0 190,i0 0,r 349,i0 192,i0 0,r 356,i0 197,i0 0,r 363,i0 231,i0 0,r 434,i0 245,i0 0,r 441,i0 247,i0 0,r 448,i0 254,i0 0,r 476,i0 264,i0 0,r 509,i0 279,i0 0,r 540,i0 289,i0 0,r 566,i0 297,i0 0,r 592,i0 305,i0 0,r 618,i0 313,i0 0,r 644,i0 321,i0 0,r 670,i0 344,i0 0,r 706,i0 351,i0 0,r 732,i0 354,i0 0,r 739,i0 357,i0 0,r 746]
def o748:Obj:=⟨.type "type",none,.cls ⟨"Rule",[.type "object"],[r 466,.type "object"],465,"Rule",true,[],[r 501,r 532,r 558,r 698,r 724],false,none,false⟩,#[none,none,zan,zao,zae,zaj]⟩
def o749:=tu [r 466]
def o750:Obj:=zaa
def g46 (P:Params):List DictEntry:=[en P "__qualname__" 1101 (.str "Told" 1100),en P "__firstlineno__" 1103 (.int 344 1102),en P "__init__" 1111 (.ref 714),en P "machine" 1119 (.ref 721),en P "__static_attributes__" 1121 (.ref 722)]
def o751 (P:Params):Obj:=⟨.type "dict",none,.dict ⟨en P "__module__" 1099 zab::g46 P⟩ 6,#[]⟩
def o752:=tu []
def o753:=nf [i0 346,i0 4,r 713,i0 349,i0 4,r 720]
def o754:=cv "Told" 1094 "Told" 1095 1096 344 0 0 0 0 704 181 705 1097 1098
def o755:=fm 706 3 703 "roomward.rules" 747 0
def o756:=tu []
def o757:=nf []
def o758:=tu [.str "self" 1107,.str "machine" 1108]
def o759:=tu []
def o760:=nv "__init__" "Told.__init__" (aD (tp 50) 0) 0 .none .none
def o761:=co [.str "__init__" 1104,.str "Told.__init__" 1105,cp 1106,i0 346,i0 2,i0 0,i0 0,i0 3,r 708,.bool true,i0 181,r 709,.none,r 710,r 711,r 712,i0 1109,i0 346,cp 1110]
def o762:=fv "__init__" "Told.__init__" (aD (tp 50) 0) 3 zab (r 713)
def o763:=tu []
def o764:=nf []
def o765:=tu [.str "self" 1115,.str "deeds" 1116]
def o766:=tu []
def o767:=nv "machine" "Told.machine" (aD (tp 50) 1) 0 .none .none
def o768:=co [.str "machine" 1112,.str "Told.machine" 1113,cp 1114,i0 349,i0 2,i0 0,i0 0,i0 3,r 715,.bool true,i0 181,r 716,.none,r 717,r 718,r 719,i0 1117,i0 349,cp 1118]
def o769:=fv "machine" "Told.machine" (aD (tp 50) 1) 3 zab (r 720)
def o770:=tu [.str "machine_itself" 1120]
def g47 (P:Params):List DictEntry:=[en P "__firstlineno__" 1103 (.int 344 1102),en P "__init__" 1111 (.ref 714),en P "machine" 1119 (.ref 721),en P "__static_attributes__" 1121 (.ref 722),en P "__doc__" 1122 .none]
def o771 (P:Params):Obj:=⟨.type "dict",none,.dict ⟨en P "__module__" 1099 zab::g47 P⟩ 2,#[]⟩
def o772:Obj:=⟨.type "type",none,.cls ⟨"Told",[r 466],[r 724,r 466,.type "object"],723,"Told",true,[],[],false,none,false⟩,#[(some (r 701)),none,(some (.str "Told" 1092)),(some (.str "Told" 1100)),zae,zaj]⟩
def o773:Obj:=⟨.type "super",none,.fields #[r 724,r 724,r 724],#[]⟩
def o774:Obj:=⟨.type "builtin_function_or_method",none,.fields #[.builtin "object.__init_subclass__",r 724],#[]⟩
def o775:=tu []
def o776:=nf []
def o777:=tu [.str "rule" 1128,.str "deeds" 1129,.str "row" 1130]
def o778:=tu []
def o779:=nw "keeps" (tp 51) 0 .none .none
def o780:=co [.str "keeps" 1125,.str "keeps" 1126,cp 1127,i0 351,i0 3,i0 0,i0 0,i0 3,r 727,.bool true,i0 181,r 728,.none,r 729,r 730,r 731,i0 1131,i0 351,cp 1132]
def o781:=fw "keeps" (tp 51) 3 zab (r 732)
def o782:=tu []
def o783:=nf []
def o784:=tu [.str "_law_cell" 1139,.str "_law_k" 1140,.str "_law_one" 1141]
def o785:=tu []
def o786:=nw "_law_mixed" (tp 53) 0 .none .none
def o787:=co [.str "_law_mixed" 1136,.str "_law_mixed" 1137,cp 1138,i0 354,i0 2,i0 0,i0 0,i0 3,r 734,.bool true,i0 181,r 735,.none,r 736,r 737,r 738,i0 1142,i0 354,cp 1143]
def o788:=fw "_law_mixed" (tp 53) 3 zad (r 739)
def o789:=tu []
def o790:=nf []
def o791:=tu [.str "_law_script" 1148,.str "_law_k" 1149]
def o792:=tu []
def o793:=nw "_law_cell_at" (tp 54) 0 .none .none
def o794:=co [.str "_law_cell_at" 1145,.str "_law_cell_at" 1146,cp 1147,i0 357,i0 2,i0 0,i0 0,i0 3,r 741,.bool true,i0 181,r 742,.none,r 743,r 744,r 745,i0 1150,i0 357,cp 1151]
def o795:=fw "_law_cell_at" (tp 54) 3 zad (r 746)
def T22 (P:Params):BT:=ns (T21 P) [(3,o746 P),(12,o747),(466,o748),(701,o749),(702,o750),(703,o751 P),(704,o752),(705,o753),(706,o754),(707,o755),(708,o756),(709,o757),(710,o758),(711,o759),(712,o760),(713,o761),(714,o762),(715,o763),(716,o764),(717,o765),(718,o766),(719,o767),(720,o768),(721,o769),(722,o770),(723,o771 P),(724,o772),(725,o773),(726,o774),(727,o775),(728,o776),(729,o777),(730,o778),(731,o779),(732,o780),(733,o781),(734,o782),(735,o783),(736,o784),(737,o785),(738,o786),(739,o787),(740,o788),(741,o789),(742,o790),(743,o791),(744,o792),(745,o793),(746,o794),(747,o795)]
theorem pc22:Hd.Pc pp env T21 701 1092 T22 748 1153 379 [tp 50,tp 51,tp 52,tp 53,tp 54] ⟨321,0,343,76⟩ ⟨357,0,360,12⟩:=by
 intro w
 kernel_rfl
def g48 (P:Params):List DictEntry:=g45 P++[en P "_law_names_by" 1158 (.ref 752),en P "_law_deeds_by" 1164 (.ref 757),en P "_law_rooms_by" 1170 (.ref 762),en P "_law_machine_by" 1176 (.ref 767),en P "_law_rule_of" 1183 (.ref 774),en P "_law_about" 1190 (.ref 781),en P "_law_next" 1201 (.ref 788),en P "_law_all_next" 1207 (.ref 793),en P "_law_all_end" 1213 (.ref 798),en P "_law_drawn" 1224 (.ref 805),en P "_law_two_deeds" 1233 (.ref 812),en P "_law_row" 1239 (.ref 817),en P "_law_walked" 1245 (.ref 822),en P "_law_counted" 1255 (.ref 829)]
def o796 (P:Params):Obj:=⟨.type "dict",none,.dict ⟨en P "__name__" 165 zad::g48 P⟩ 71,#[]⟩
def o797:=nf [i0 1,i0 0,r 20,i0 5,i0 0,r 27,i0 7,i0 0,r 40,i0 9,i0 0,r 52,i0 11,i0 0,r 64,i0 13,i0 0,r 76,i0 15,i0 0,r 88,i0 17,i0 0,r 100,i0 24,i0 0,r 110,i0 29,i0 0,r 117,i0 39,i0 0,r 124,i0 46,i0 0,r 131,i0 51,i0 0,r 138,i0 84,i0 0,r 209,i0 91,i0 0,r 216,i0 95,i0 0,r 223,i0 104,i0 0,r 230,i0 167,i0 0,r 327,i0 181,i0 0,r 334,i0 185,i0 0,r 339,i0 187,i0 0,r 344,i0 190,i0 0,r 349,i0 192,i0 0,r 356,i0 197,i0 0,r 363,i0 231,i0 0,r 434,i0 245,i0 0,r 441,i0 247,i0 0,r 448,i0 254,i0 0,r 476,i0 264,i0 0,r 509,i0 279,i0 0,r 540,i0 289,i0 0,r 566,i0 297,i0 0,r 592,i0 305,i0 0,r 618,i0 313,i0 0,r 644,i0 321,i0 0,r 670,i0 344,i0 0,r 706,i0 351,i0 0,r 732,i0 354,i0 0,r 739,i0 357,i0 0,r 746,i0 361,i0 0,r 751,i0 365,i0 0,r 756,i0 371,i0 0,r 761,i0 375,i0 0,r 766,i0 389,i0 0,r 773,i0 401,i0 0,r 780,i0 405,i0 0,r 787,i0 420,i0 0,r 792,i0 423,i0 0,r 797,i0 425,i0 0,r 804,i0 434,i0 0,r 811,i0 439,i0 0,r 816,i0 441,i0 0,r 821,i0 451,i0 0,r 828]
def o798:=tu []
def o799:=nf []
def o800:=nw "_law_names_by" (tp 55) 0 .none .none
def o801:=co [.str "_law_names_by" 1153,.str "_law_names_by" 1154,cp 1155,i0 361,i0 2,i0 0,i0 0,i0 3,r 748,.bool true,i0 181,r 749,.none,.none,.none,r 750,i0 1156,i0 361,cp 1157]
def o802:=fw "_law_names_by" (tp 55) 3 zad (r 751)
def o803:=tu []
def o804:=nf []
def o805:=nw "_law_deeds_by" (tp 56) 0 .none .none
def o806:=co [.str "_law_deeds_by" 1159,.str "_law_deeds_by" 1160,cp 1161,i0 365,i0 1,i0 0,i0 0,i0 3,r 753,.bool true,i0 181,r 754,.none,.none,.none,r 755,i0 1162,i0 365,cp 1163]
def o807:=fw "_law_deeds_by" (tp 56) 3 zad (r 756)
def o808:=tu []
def o809:=nf []
def o810:=nw "_law_rooms_by" (tp 57) 0 .none .none
def o811:=co [.str "_law_rooms_by" 1165,.str "_law_rooms_by" 1166,cp 1167,i0 371,i0 2,i0 0,i0 0,i0 3,r 758,.bool true,i0 181,r 759,.none,.none,.none,r 760,i0 1168,i0 371,cp 1169]
def o812:=fw "_law_rooms_by" (tp 57) 3 zad (r 761)
def o813:=tu []
def o814:=nf []
def o815:=nw "_law_machine_by" (tp 58) 0 .none .none
def o816:=co [.str "_law_machine_by" 1171,.str "_law_machine_by" 1172,cp 1173,i0 375,i0 3,i0 0,i0 0,i0 3,r 763,.bool true,i0 181,r 764,.none,.none,.none,r 765,i0 1174,i0 375,cp 1175]
def o817:=fw "_law_machine_by" (tp 58) 3 zad (r 766)
def o818:=tu []
def o819:=nf []
def o820:=tu [.str "_law_row_here" 1180]
def o821:=tu []
def o822:=nw "_law_rule_of" (tp 59) 0 .none .none
def o823:=co [.str "_law_rule_of" 1177,.str "_law_rule_of" 1178,cp 1179,i0 389,i0 1,i0 0,i0 0,i0 3,r 768,.bool true,i0 181,r 769,.none,r 770,r 771,r 772,i0 1181,i0 389,cp 1182]
def o824:=fw "_law_rule_of" (tp 59) 3 zad (r 773)
def o825:=tu []
def o826:=nf []
def o827:=tu [.str "_law_rule" 1187]
def o828:=tu []
def o829:=nw "_law_about" (tp 60) 0 .none .none
def o830:=co [.str "_law_about" 1184,.str "_law_about" 1185,cp 1186,i0 401,i0 1,i0 0,i0 0,i0 3,r 775,.bool true,i0 181,r 776,.none,r 777,r 778,r 779,i0 1188,i0 401,cp 1189]
def o831:=fw "_law_about" (tp 60) 3 zad (r 780)
def o832:=tu []
def o833:=nf []
def o834:=tu [.str "_law_rule" 1194,.str "_law_state" 1195,.str "_law_deed" 1196,.str "_law_word" 1197,.str "_law_one" 1198]
def o835:=tu []
def o836:=nw "_law_next" (tp 61) 0 .none .none
def o837:=co [.str "_law_next" 1191,.str "_law_next" 1192,cp 1193,i0 405,i0 3,i0 0,i0 0,i0 3,r 782,.bool true,i0 181,r 783,.none,r 784,r 785,r 786,i0 1199,i0 405,cp 1200]
def o838:=fw "_law_next" (tp 61) 3 zad (r 787)
def o839:=tu []
def o840:=nf []
def o841:=nw "_law_all_next" (tp 62) 0 .none .none
def o842:=co [.str "_law_all_next" 1202,.str "_law_all_next" 1203,cp 1204,i0 420,i0 3,i0 0,i0 0,i0 3,r 789,.bool true,i0 181,r 790,.none,.none,.none,r 791,i0 1205,i0 420,cp 1206]
def o843:=fw "_law_all_next" (tp 62) 3 zad (r 792)
def o844:=tu []
def o845:=nf []
def o846:=nw "_law_all_end" (tp 63) 0 .none .none
def o847:=co [.str "_law_all_end" 1208,.str "_law_all_end" 1209,cp 1210,i0 423,i0 2,i0 0,i0 0,i0 3,r 794,.bool true,i0 181,r 795,.none,.none,.none,r 796,i0 1211,i0 423,cp 1212]
def o848:=fw "_law_all_end" (tp 63) 3 zad (r 797)
def o849:=tu []
def o850:=nf []
def o851:=tu [.str "_law_cell" 1217,.str "_law_names" 1218,.str "_law_word" 1219,.str "_law_one" 1220,.str "_law_other" 1221]
def o852:=tu []
def o853:=nw "_law_drawn" (tp 64) 0 .none .none
def o854:=co [.str "_law_drawn" 1214,.str "_law_drawn" 1215,cp 1216,i0 425,i0 2,i0 0,i0 0,i0 3,r 799,.bool true,i0 181,r 800,.none,r 801,r 802,r 803,i0 1222,i0 425,cp 1223]
def o855:=fw "_law_drawn" (tp 64) 3 zad (r 804)
def o856:=tu []
def o857:=nf []
def o858:=tu [.str "_law_cell" 1228,.str "_law_names" 1229,.str "_law_free" 1230]
def o859:=tu []
def o860:=nw "_law_two_deeds" (tp 65) 0 .none .none
def o861:=co [.str "_law_two_deeds" 1225,.str "_law_two_deeds" 1226,cp 1227,i0 434,i0 1,i0 0,i0 0,i0 3,r 806,.bool true,i0 181,r 807,.none,r 808,r 809,r 810,i0 1231,i0 434,cp 1232]
def o862:=fw "_law_two_deeds" (tp 65) 3 zad (r 811)
def o863:=tu []
def o864:=nf []
def o865:=nw "_law_row" (tp 66) 0 .none .none
def o866:=co [.str "_law_row" 1234,.str "_law_row" 1235,cp 1236,i0 439,i0 3,i0 0,i0 0,i0 3,r 813,.bool true,i0 181,r 814,.none,.none,.none,r 815,i0 1237,i0 439,cp 1238]
def o867:=fw "_law_row" (tp 66) 3 zad (r 816)
def o868:=tu []
def o869:=nf []
def o870:=nw "_law_walked" (tp 67) 0 .none .none
def o871:=co [.str "_law_walked" 1240,.str "_law_walked" 1241,cp 1242,i0 441,i0 2,i0 0,i0 0,i0 3,r 818,.bool true,i0 181,r 819,.none,.none,.none,r 820,i0 1243,i0 441,cp 1244]
def o872:=fw "_law_walked" (tp 67) 3 zad (r 821)
def o873:=tu []
def o874:=nf []
def o875:=tu [.str "_law_words" 1249,.str "_law_row_here" 1250,.str "_law_state" 1251,.str "_law_deed" 1252]
def o876:=tu []
def o877:=nw "_law_counted" (tp 68) 0 .none .none
def o878:=co [.str "_law_counted" 1246,.str "_law_counted" 1247,cp 1248,i0 451,i0 2,i0 0,i0 0,i0 3,r 823,.bool true,i0 181,r 824,.none,r 825,r 826,r 827,i0 1253,i0 451,cp 1254]
def o879:=fw "_law_counted" (tp 68) 3 zad (r 828)
def T23 (P:Params):BT:=ns (T22 P) [(3,o796 P),(12,o797),(748,o798),(749,o799),(750,o800),(751,o801),(752,o802),(753,o803),(754,o804),(755,o805),(756,o806),(757,o807),(758,o808),(759,o809),(760,o810),(761,o811),(762,o812),(763,o813),(764,o814),(765,o815),(766,o816),(767,o817),(768,o818),(769,o819),(770,o820),(771,o821),(772,o822),(773,o823),(774,o824),(775,o825),(776,o826),(777,o827),(778,o828),(779,o829),(780,o830),(781,o831),(782,o832),(783,o833),(784,o834),(785,o835),(786,o836),(787,o837),(788,o838),(789,o839),(790,o840),(791,o841),(792,o842),(793,o843),(794,o844),(795,o845),(796,o846),(797,o847),(798,o848),(799,o849),(800,o850),(801,o851),(802,o852),(803,o853),(804,o854),(805,o855),(806,o856),(807,o857),(808,o858),(809,o859),(810,o860),(811,o861),(812,o862),(813,o863),(814,o864),(815,o865),(816,o866),(817,o867),(818,o868),(819,o869),(820,o870),(821,o871),(822,o872),(823,o873),(824,o874),(825,o875),(826,o876),(827,o877),(828,o878),(829,o879)]
theorem pc23:Hd.Pc pp env T22 748 1153 T23 830 1256 396 [tp 55,tp 56,tp 57,tp 58,tp 59,tp 60,tp 61,tp 62,tp 63,tp 64,tp 65,tp 66,tp 67,tp 68] ⟨357,0,360,12⟩ ⟨451,0,455,21⟩:=by
 intro w
 kernel_rfl
def g49 (P:Params):List DictEntry:=g48 P++[en P "_law_named_anew" 1261 (.ref 834),en P "law" 1285 (.ref 841)]
def o880 (P:Params):Obj:=⟨.type "dict",none,.dict ⟨en P "__name__" 165 zad::g49 P⟩ 73,#[]⟩
def o881:=nf [i0 1,i0 0,r 20,i0 5,i0 0,r 27,i0 7,i0 0,r 40,i0 9,i0 0,r 52,i0 11,i0 0,r 64,i0 13,i0 0,r 76,i0 15,i0 0,r 88,i0 17,i0 0,r 100,i0 24,i0 0,r 110,i0 29,i0 0,r 117,i0 39,i0 0,r 124,i0 46,i0 0,r 131,i0 51,i0 0,r 138,i0 84,i0 0,r 209,i0 91,i0 0,r 216,i0 95,i0 0,r 223,i0 104,i0 0,r 230,i0 167,i0 0,r 327,i0 181,i0 0,r 334,i0 185,i0 0,r 339,i0 187,i0 0,r 344,i0 190,i0 0,r 349,i0 192,i0 0,r 356,i0 197,i0 0,r 363,i0 231,i0 0,r 434,i0 245,i0 0,r 441,i0 247,i0 0,r 448,i0 254,i0 0,r 476,i0 264,i0 0,r 509,i0 279,i0 0,r 540,i0 289,i0 0,r 566,i0 297,i0 0,r 592,i0 305,i0 0,r 618,i0 313,i0 0,r 644,i0 321,i0 0,r 670,i0 344,i0 0,r 706,i0 351,i0 0,r 732,i0 354,i0 0,r 739,i0 357,i0 0,r 746,i0 361,i0 0,r 751,i0 365,i0 0,r 756,i0 371,i0 0,r 761,i0 375,i0 0,r 766,i0 389,i0 0,r 773,i0 401,i0 0,r 780,i0 405,i0 0,r 787,i0 420,i0 0,r 792,i0 423,i0 0,r 797,i0 425,i0 0,r 804,i0 434,i0 0,r 811,i0 439,i0 0,r 816,i0 441,i0 0,r 821,i0 451,i0 0,r 828,i0 456,i0 0,r 833,i0 475,i0 0,r 840]
def o882:=tu []
def o883:=nf []
def o884:=nw "_law_named_anew" (tp 69) 0 .none .none
def o885:=co [.str "_law_named_anew" 1256,.str "_law_named_anew" 1257,cp 1258,i0 456,i0 3,i0 0,i0 0,i0 3,r 830,.bool true,i0 181,r 831,.none,.none,.none,r 832,i0 1259,i0 456,cp 1260]
def o886:=fw "_law_named_anew" (tp 69) 3 zad (r 833)
def o887:=tu []
def o888:=nf []
def o889:=tu [.str "_law_script" 1265,.str "_law_names" 1266,.str "_law_free" 1267,.str "_law_cell" 1268,.str "_law_told" 1269,.str "_law_words" 1270,.str "_law_deeds" 1271,.str "_law_machine" 1272,.str "_law_rule" 1273,.str "_law_plain" 1274,.str "_law_both" 1275,.str "_law_joined" 1276,.str "_law_k" 1277,.str "_law_row_here" 1278,.str "_law_room" 1279,.str "_law_state" 1280,.str "_law_good" 1281,.str "_law_ends" 1282]
def o890:=tu []
def o891:=nw "law" (tp 70) 0 .none .none
def o892:=co [.str "law" 1262,.str "law" 1263,cp 1264,i0 475,i0 1,i0 0,i0 0,i0 3,r 835,.bool true,i0 181,r 836,.none,r 837,r 838,r 839,i0 1283,i0 475,cp 1284]
def o893:=fw "law" (tp 70) 3 zad (r 840)
def T24 (P:Params):BT:=ns (T23 P) [(3,o880 P),(12,o881),(830,o882),(831,o883),(832,o884),(833,o885),(834,o886),(835,o887),(836,o888),(837,o889),(838,o890),(839,o891),(840,o892),(841,o893)]
theorem pc24:Hd.Pc pp env T23 830 1256 T24 842 1286 73 [tp 69,tp 70] ⟨451,0,455,21⟩ ⟨475,0,503,15⟩:=by
 intro w
 kernel_rfl
def Hf (P:Params):Heap:=⟨Array.mk [boot_o_0 P,boot_o_1 P,boot_o_2 P,o880 P,boot_o_4 P,boot_o_5 P,boot_o_6 P,boot_o_7 P,boot_o_8 P,boot_o_9 P,boot_o_10 P,o0,o881,o2,o3,o6,o7,o8,o9,o10,o11,o12,o13,o14,o15 P,o16,o17,o18,o19,o20,o21 P,o103,o23,o24,o25,o29,o30,o31 P,o32,o33,o34,o35,o36,o37 P,o38,o39,o40,o44,o45,o46 P,o47,o48,o49,o50,o51,o52 P,o53,o54,o55,o59,o60,o61 P,o62,o63,o64,o65,o66,o67 P,o68,o69,o70,o74,o75,o76 P,o77,o78,o79,o80,o81,o82 P,o83,o84,o85,o89,o90,o91 P,o92,o93,o94,o95,o96,o97 P,o98,o99,o100,o104,o105,o106 P,o107,o108,o109,o110,o111,o112 P,o113,o114,o115,o116,o117,o118,o119,o120,o121,o122,o123,o124,o125,o126,o127,o128,o129,o130,o131,o132,o133,o134,o135,o136,o137,o138,o139,o140,o141,o144,o145,o146 P,o147,o148,o149,o150,o151,o152,o153,o154,o155,o156,o157,o158,o159,o160,o161,o162,o163,o164,o165,o166,o167,o168,o169,o170,o171,o172,o173,o174,o175,o176,o177,o178,o179,o180,o181,o182,o183,o184,o185,o186,o187,o188,o189,o190,o191,o192,o193,o194,o195,o196,o197,o198,o199,o200,o201,o202,o203,o204,o205,o206,o207,o208,o209 P,o210,o211,o212,o213,o214,o217,o218,o219,o220,o221,o222,o223,o224,o225,o226,o227,o228,o229,o230,o231,o232,o233,o234,o235,o236,o237,o240,o241,o242 P,o243,o244,o245,o246,o247,o248,o249,o250,o251,o252,o253,o254,o255,o256,o257,o258,o259,o260,o261,o262,o263,o264,o265,o266,o267,o268,o269,o270,o271,o272,o273,o274,o275,o276,o277,o278,o279,o280,o281,o282,o283,o284,o285,o286,o287,o288,o289,o290,o291,o292,o293,o294,o295,o296,o297,o298,o299,o300,o301,o302,o303,o304,o305,o306,o307,o308,o309,o310,o311,o312,o313,o314,o315,o316,o317,o318,o319,o320,o321,o322,o323,o324,o325,o326,o327,o328,o329,o330,o331 P,o332,o333,o334,o335,o336,o339,o340,o341,o342,o343,o344,o345,o346,o347,o348,o349,o350,o351,o352,o353,o354,o355,o356,o357,o358,o359,o360,o361,o362,o363,o364,o365,o366,o367,o368,o369,o370,o371,o372,o373,o374,o377,o378,o379 P,o380,o381,o382,o383,o384,o385,o386,o387,o388,o389,o390,o391,o392,o393,o394,o395,o396,o397,o398,o399,o400,o401,o402,o403,o404,o405,o406,o407,o408,o409,o410,o411,o412,o413,o414,o415,o416,o417,o418,o419,o420,o421,o422,o423,o424,o425,o426,o427,o428,o429,o430,o431,o432,o433,o434,o435,o436,o437,o438,o439,o440,o441,o442,o443,o444 P,o445,o446,o447,o448,o449,o452,o453,o454,o455,o456,o457,o458,o459,o460,o461,o462,o463,o464,o465,o466 P,o467,o468,o469,o470,o471,o472,o473,o474,o475,o476,o477,o478,o479,o480,o481,o482,o483,o484,o485,o486 P,o748,o488,o489,o490,o491,o495,o496,o497 P,o498,o499,o500,o501,o502,o503,o504,o505,o506,o507,o508,o509,o510,o511,o512,o513,o514,o515,o516,o517,o518,o519,o520,o521,o522,o523,o524 P,o525,o526,o527,o531,o532,o533 P,o534,o535,o536,o537,o538,o539,o540,o541,o542,o543,o544,o545,o546,o547,o548,o549,o550,o551,o552,o553,o554,o555,o556,o557,o558 P,o559,o560,o561,o565,o566,o567 P,o568,o569,o570,o571,o572,o573,o574,o575,o576,o577,o578,o579,o580,o581,o582,o583,o584,o585,o586,o587 P,o680,o589,o590,o594,o595,o596 P,o597,o598,o599,o600,o601,o602,o603,o604,o605,o606,o607,o608,o609,o610,o611,o612,o613,o614,o615,o616 P,o617,o618,o619,o623,o624,o625 P,o626,o627,o628,o629,o630,o631,o632,o633,o634,o635,o636,o637,o638,o639,o640,o641,o642,o643,o644,o645 P,o646,o647,o648,o652,o653,o654 P,o655,o656,o657,o658,o659,o660,o661,o662,o663,o664,o665,o666,o667,o668,o669,o670,o671,o672,o673,o674 P,o675,o676,o677,o681,o682,o683 P,o684,o685,o686,o687,o688,o689,o690,o691,o692,o693,o694,o695,o696,o697,o698,o699,o700,o701,o702,o703 P,o704,o705,o706,o710,o711,o712 P,o713,o714,o715,o716,o717,o718,o719,o720,o721,o722,o723,o724,o725,o726,o727,o728,o729,o730,o731,o732,o733,o734,o735,o736,o737,o738,o739,o740,o741,o742 P,o743,o744,o745,o749,o750,o751 P,o752,o753,o754,o755,o756,o757,o758,o759,o760,o761,o762,o763,o764,o765,o766,o767,o768,o769,o770,o771 P,o772,o773,o774,o775,o776,o777,o778,o779,o780,o781,o782,o783,o784,o785,o786,o787,o788,o789,o790,o791,o792,o793,o794,o795,o798,o799,o800,o801,o802,o803,o804,o805,o806,o807,o808,o809,o810,o811,o812,o813,o814,o815,o816,o817,o818,o819,o820,o821,o822,o823,o824,o825,o826,o827,o828,o829,o830,o831,o832,o833,o834,o835,o836,o837,o838,o839,o840,o841,o842,o843,o844,o845,o846,o847,o848,o849,o850,o851,o852,o853,o854,o855,o856,o857,o858,o859,o860,o861,o862,o863,o864,o865,o866,o867,o868,o869,o870,o871,o872,o873,o874,o875,o876,o877,o878,o879,o882,o883,o884,o885,o886,o887,o888,o889,o890,o891,o892,o893],Hd.lf⟩
theorem fin:Hd.Fi pp env T24 842 1286 Hf 1286 2 ⟨475,0,503,15⟩:=by
 intro w
 kernel_rfl
def vw:Program:={ pp with main:={ pp.main with body:=[tp 0,tp 2,tp 3,tp 4,tp 5,tp 6,tp 7,tp 8,tp 10,tp 11,tp 12,tp 13,tp 14,tp 15,tp 16,tp 17,tp 18,tp 20,tp 21,tp 22,tp 23,tp 24,tp 26,tp 27,tp 29,tp 30,tp 31,tp 32,tp 33,tp 34,tp 35,tp 37,tp 38,tp 39,tp 40,tp 41,tp 42,tp 43,tp 44,tp 45,tp 46,tp 47,tp 48,tp 49,tp 50,tp 51,tp 53,tp 54,tp 55,tp 56,tp 57,tp 58,tp 59,tp 60,tp 61,tp 62,tp 63,tp 64,tp 65,tp 66,tp 67,tp 68,tp 69,tp 70] } }
def kk (P:Params):Frag:=
 (nat_lit 2,boot_o_2 P)::(nat_lit 3,o880 P)::(nat_lit 15,o6)::(nat_lit 17,o8)::(nat_lit 18,o9)::(nat_lit 20,o11)::(nat_lit 21,o12)::(nat_lit 22,o13)::(nat_lit 29,o20)::(nat_lit 30,o21 P)::(nat_lit 31,o103)::(nat_lit 32,o23)::(nat_lit 35,o29)::(nat_lit 42,o36)::(nat_lit 43,o37 P)::(nat_lit 44,o38)::(nat_lit 47,o44)::(nat_lit 54,o51)::(nat_lit 55,o52 P)::(nat_lit 56,o53)::(nat_lit 59,o59)::(nat_lit 66,o66)::(nat_lit 67,o67 P)::(nat_lit 68,o68)::(nat_lit 71,o74)::(nat_lit 78,o81)::(nat_lit 79,o82 P)::(nat_lit 80,o83)::(nat_lit 83,o89)::(nat_lit 90,o96)::(nat_lit 91,o97 P)::(nat_lit 92,o98)::(nat_lit 95,o104)::(nat_lit 102,o111)::(nat_lit 103,o112 P)::(nat_lit 104,o113)::(nat_lit 107,o116)::(nat_lit 110,o119)::(nat_lit 111,o120)::(nat_lit 112,o121)::(nat_lit 114,o123)::(nat_lit 115,o124)::(nat_lit 117,o126)::(nat_lit 118,o127)::(nat_lit 119,o128)::(nat_lit 121,o130)::(nat_lit 122,o131)::(nat_lit 124,o133)::(nat_lit 125,o134)::(nat_lit 126,o135)::(nat_lit 128,o137)::(nat_lit 129,o138)::(nat_lit 131,o140)::(nat_lit 132,o141)::(nat_lit 140,o151)::(nat_lit 141,o152)::(nat_lit 143,o154)::(nat_lit 144,o155)::(nat_lit 146,o157)::(nat_lit 147,o158)::(nat_lit 148,o159)::(nat_lit 150,o161)::(nat_lit 151,o162)::(nat_lit 153,o164)::(nat_lit 154,o165)::(nat_lit 155,o166)::(nat_lit 157,o168)::(nat_lit 158,o169)::(nat_lit 160,o171)::(nat_lit 161,o172)::(nat_lit 162,o173)::(nat_lit 164,o175)::(nat_lit 165,o176)::(nat_lit 167,o178)::(nat_lit 168,o179)::(nat_lit 169,o180)::(nat_lit 171,o182)::(nat_lit 172,o183)::(nat_lit 174,o185)::(nat_lit 175,o186)::(nat_lit 176,o187)::(nat_lit 178,o189)::(nat_lit 179,o190)::(nat_lit 181,o192)::(nat_lit 182,o193)::(nat_lit 183,o194)::(nat_lit 185,o196)::(nat_lit 186,o197)::(nat_lit 188,o199)::(nat_lit 189,o200)::(nat_lit 190,o201)::(nat_lit 192,o203)::(nat_lit 193,o204)::(nat_lit 195,o206)::(nat_lit 196,o207)::(nat_lit 197,o208)::(nat_lit 198,o209 P)::(nat_lit 199,o210)::(nat_lit 200,o211)::(nat_lit 201,o212)::(nat_lit 204,o217)::(nat_lit 206,o219)::(nat_lit 207,o220)::(nat_lit 209,o222)::(nat_lit 210,o223)::(nat_lit 211,o224)::(nat_lit 213,o226)::(nat_lit 214,o227)::(nat_lit 216,o229)::(nat_lit 217,o230)::(nat_lit 218,o231)::(nat_lit 220,o233)::(nat_lit 221,o234)::(nat_lit 223,o236)::(nat_lit 224,o237)::(nat_lit 232,o247)::(nat_lit 233,o248)::(nat_lit 236,o251)::(nat_lit 237,o252)::(nat_lit 238,o253)::(nat_lit 240,o255)::(nat_lit 241,o256)::(nat_lit 243,o258)::(nat_lit 244,o259)::(nat_lit 245,o260)::(nat_lit 247,o262)::(nat_lit 248,o263)::(nat_lit 250,o265)::(nat_lit 251,o266)::(nat_lit 252,o267)::(nat_lit 254,o269)::(nat_lit 255,o270)::(nat_lit 257,o272)::(nat_lit 258,o273)::(nat_lit 259,o274)::(nat_lit 261,o276)::(nat_lit 262,o277)::(nat_lit 264,o279)::(nat_lit 265,o280)::(nat_lit 266,o281)::(nat_lit 268,o283)::(nat_lit 269,o284)::(nat_lit 271,o286)::(nat_lit 272,o287)::(nat_lit 273,o288)::(nat_lit 275,o290)::(nat_lit 276,o291)::(nat_lit 278,o293)::(nat_lit 279,o294)::(nat_lit 280,o295)::(nat_lit 282,o297)::(nat_lit 283,o298)::(nat_lit 285,o300)::(nat_lit 286,o301)::(nat_lit 287,o302)::(nat_lit 289,o304)::(nat_lit 290,o305)::(nat_lit 292,o307)::(nat_lit 293,o308)::(nat_lit 294,o309)::(nat_lit 296,o311)::(nat_lit 297,o312)::(nat_lit 299,o314)::(nat_lit 300,o315)::(nat_lit 301,o316)::(nat_lit 303,o318)::(nat_lit 304,o319)::(nat_lit 306,o321)::(nat_lit 307,o322)::(nat_lit 308,o323)::(nat_lit 310,o325)::(nat_lit 311,o326)::(nat_lit 313,o328)::(nat_lit 314,o329)::(nat_lit 315,o330)::(nat_lit 316,o331 P)::(nat_lit 317,o332)::(nat_lit 318,o333)::(nat_lit 319,o334)::(nat_lit 322,o339)::(nat_lit 324,o341)::(nat_lit 325,o342)::(nat_lit 327,o344)::(nat_lit 328,o345)::(nat_lit 329,o346)::(nat_lit 331,o348)::(nat_lit 332,o349)::(nat_lit 334,o351)::(nat_lit 335,o352)::(nat_lit 336,o353)::(nat_lit 339,o356)::(nat_lit 340,o357)::(nat_lit 341,o358)::(nat_lit 344,o361)::(nat_lit 345,o362)::(nat_lit 346,o363)::(nat_lit 349,o366)::(nat_lit 350,o367)::(nat_lit 351,o368)::(nat_lit 353,o370)::(nat_lit 354,o371)::(nat_lit 356,o373)::(nat_lit 357,o374)::(nat_lit 365,o384)::(nat_lit 367,o386)::(nat_lit 368,o387)::(nat_lit 370,o389)::(nat_lit 371,o390)::(nat_lit 372,o391)::(nat_lit 374,o393)::(nat_lit 375,o394)::(nat_lit 377,o396)::(nat_lit 378,o397)::(nat_lit 379,o398)::(nat_lit 381,o400)::(nat_lit 382,o401)::(nat_lit 384,o403)::(nat_lit 385,o404)::(nat_lit 386,o405)::(nat_lit 388,o407)::(nat_lit 389,o408)::(nat_lit 391,o410)::(nat_lit 392,o411)::(nat_lit 393,o412)::(nat_lit 396,o415)::(nat_lit 397,o416)::(nat_lit 398,o417)::(nat_lit 400,o419)::(nat_lit 401,o420)::(nat_lit 403,o422)::(nat_lit 404,o423)::(nat_lit 405,o424)::(nat_lit 407,o426)::(nat_lit 408,o427)::(nat_lit 410,o429)::(nat_lit 411,o430)::(nat_lit 412,o431)::(nat_lit 415,o434)::(nat_lit 416,o435)::(nat_lit 417,o436)::(nat_lit 419,o438)::(nat_lit 420,o439)::(nat_lit 422,o441)::(nat_lit 423,o442)::(nat_lit 424,o443)::(nat_lit 425,o444 P)::(nat_lit 426,o445)::(nat_lit 427,o446)::(nat_lit 428,o447)::(nat_lit 431,o452)::(nat_lit 434,o455)::(nat_lit 435,o456)::(nat_lit 436,o457)::(nat_lit 438,o459)::(nat_lit 439,o460)::(nat_lit 441,o462)::(nat_lit 442,o463)::(nat_lit 450,o471)::(nat_lit 452,o473)::(nat_lit 453,o474)::(nat_lit 455,o476)::(nat_lit 456,o477)::(nat_lit 457,o478)::(nat_lit 459,o480)::(nat_lit 460,o481)::(nat_lit 462,o483)::(nat_lit 463,o484)::(nat_lit 464,o485)::(nat_lit 465,o486 P)::(nat_lit 466,o748)::(nat_lit 467,o488)::(nat_lit 468,o489)::(nat_lit 471,o495)::(nat_lit 478,o502)::(nat_lit 480,o504)::(nat_lit 481,o505)::(nat_lit 483,o507)::(nat_lit 484,o508)::(nat_lit 485,o509)::(nat_lit 487,o511)::(nat_lit 488,o512)::(nat_lit 490,o514)::(nat_lit 491,o515)::(nat_lit 492,o516)::(nat_lit 494,o518)::(nat_lit 495,o519)::(nat_lit 497,o521)::(nat_lit 498,o522)::(nat_lit 499,o523)::(nat_lit 500,o524 P)::(nat_lit 501,o525)::(nat_lit 504,o531)::(nat_lit 511,o538)::(nat_lit 513,o540)::(nat_lit 514,o541)::(nat_lit 516,o543)::(nat_lit 517,o544)::(nat_lit 518,o545)::(nat_lit 520,o547)::(nat_lit 521,o548)::(nat_lit 523,o550)::(nat_lit 524,o551)::(nat_lit 525,o552)::(nat_lit 528,o555)::(nat_lit 529,o556)::(nat_lit 530,o557)::(nat_lit 531,o558 P)::(nat_lit 532,o559)::(nat_lit 535,o565)::(nat_lit 542,o572)::(nat_lit 544,o574)::(nat_lit 545,o575)::(nat_lit 547,o577)::(nat_lit 548,o578)::(nat_lit 549,o579)::(nat_lit 551,o581)::(nat_lit 552,o582)::(nat_lit 554,o584)::(nat_lit 555,o585)::(nat_lit 556,o586)::(nat_lit 557,o587 P)::(nat_lit 558,o680)::(nat_lit 561,o594)::(nat_lit 568,o601)::(nat_lit 570,o603)::(nat_lit 571,o604)::(nat_lit 573,o606)::(nat_lit 574,o607)::(nat_lit 575,o608)::(nat_lit 577,o610)::(nat_lit 578,o611)::(nat_lit 580,o613)::(nat_lit 581,o614)::(nat_lit 582,o615)::(nat_lit 583,o616 P)::(nat_lit 584,o617)::(nat_lit 587,o623)::(nat_lit 594,o630)::(nat_lit 596,o632)::(nat_lit 597,o633)::(nat_lit 599,o635)::(nat_lit 600,o636)::(nat_lit 601,o637)::(nat_lit 603,o639)::(nat_lit 604,o640)::(nat_lit 606,o642)::(nat_lit 607,o643)::(nat_lit 608,o644)::(nat_lit 609,o645 P)::(nat_lit 610,o646)::(nat_lit 613,o652)::(nat_lit 620,o659)::(nat_lit 622,o661)::(nat_lit 623,o662)::(nat_lit 625,o664)::(nat_lit 626,o665)::(nat_lit 627,o666)::(nat_lit 629,o668)::(nat_lit 630,o669)::(nat_lit 632,o671)::(nat_lit 633,o672)::(nat_lit 634,o673)::(nat_lit 635,o674 P)::(nat_lit 636,o675)::(nat_lit 639,o681)::(nat_lit 646,o688)::(nat_lit 648,o690)::(nat_lit 649,o691)::(nat_lit 651,o693)::(nat_lit 652,o694)::(nat_lit 653,o695)::(nat_lit 655,o697)::(nat_lit 656,o698)::(nat_lit 658,o700)::(nat_lit 659,o701)::(nat_lit 660,o702)::(nat_lit 661,o703 P)::(nat_lit 662,o704)::(nat_lit 665,o710)::(nat_lit 672,o717)::(nat_lit 674,o719)::(nat_lit 675,o720)::(nat_lit 677,o722)::(nat_lit 678,o723)::(nat_lit 679,o724)::(nat_lit 681,o726)::(nat_lit 682,o727)::(nat_lit 684,o729)::(nat_lit 685,o730)::(nat_lit 686,o731)::(nat_lit 689,o734)::(nat_lit 690,o735)::(nat_lit 691,o736)::(nat_lit 694,o739)::(nat_lit 695,o740)::(nat_lit 696,o741)::(nat_lit 697,o742 P)::(nat_lit 698,o743)::(nat_lit 701,o749)::(nat_lit 708,o756)::(nat_lit 710,o758)::(nat_lit 711,o759)::(nat_lit 713,o761)::(nat_lit 714,o762)::(nat_lit 715,o763)::(nat_lit 717,o765)::(nat_lit 718,o766)::(nat_lit 720,o768)::(nat_lit 721,o769)::(nat_lit 722,o770)::(nat_lit 723,o771 P)::(nat_lit 724,o772)::(nat_lit 727,o775)::(nat_lit 729,o777)::(nat_lit 730,o778)::(nat_lit 732,o780)::(nat_lit 733,o781)::(nat_lit 734,o782)::(nat_lit 736,o784)::(nat_lit 737,o785)::(nat_lit 739,o787)::(nat_lit 740,o788)::(nat_lit 741,o789)::(nat_lit 743,o791)::(nat_lit 744,o792)::(nat_lit 746,o794)::(nat_lit 747,o795)::(nat_lit 748,o798)::(nat_lit 751,o801)::(nat_lit 752,o802)::(nat_lit 753,o803)::(nat_lit 756,o806)::(nat_lit 757,o807)::(nat_lit 758,o808)::(nat_lit 761,o811)::(nat_lit 762,o812)::(nat_lit 763,o813)::(nat_lit 766,o816)::(nat_lit 767,o817)::(nat_lit 768,o818)::(nat_lit 770,o820)::(nat_lit 771,o821)::(nat_lit 773,o823)::(nat_lit 774,o824)::(nat_lit 775,o825)::(nat_lit 777,o827)::(nat_lit 778,o828)::(nat_lit 780,o830)::(nat_lit 781,o831)::(nat_lit 782,o832)::(nat_lit 784,o834)::(nat_lit 785,o835)::(nat_lit 787,o837)::(nat_lit 788,o838)::(nat_lit 799,o849)::(nat_lit 801,o851)::(nat_lit 802,o852)::(nat_lit 804,o854)::(nat_lit 805,o855)::(nat_lit 806,o856)::(nat_lit 808,o858)::(nat_lit 809,o859)::(nat_lit 811,o861)::(nat_lit 812,o862)::(nat_lit 813,o863)::(nat_lit 816,o866)::(nat_lit 817,o867)::(nat_lit 818,o868)::(nat_lit 821,o871)::(nat_lit 822,o872)::(nat_lit 823,o873)::(nat_lit 825,o875)::(nat_lit 826,o876)::(nat_lit 828,o878)::(nat_lit 829,o879)::(nat_lit 830,o882)::(nat_lit 833,o885)::(nat_lit 834,o886)::(nat_lit 835,o887)::(nat_lit 837,o889)::(nat_lit 838,o890)::(nat_lit 840,o892)::(nat_lit 841,o893)::[]
def kl:List Addr:=[2,3,15,17,18,20,21,22,29,30,31,32,35,42,43,44,47,54,55,56,59,66,67,68,71,78,79,80,83,90,91,92,95,102,103,104,107,110,111,112,114,115,117,118,119,121,122,124,125,126,128,129,131,132,140,141,143,144,146,147,148,150,151,153,154,155,157,158,160,161,162,164,165,167,168,169,171,172,174,175,176,178,179,181,182,183,185,186,188,189,190,192,193,195,196,197,198,199,200,201,204,206,207,209,210,211,213,214,216,217,218,220,221,223,224,232,233,236,237,238,240,241,243,244,245,247,248,250,251,252,254,255,257,258,259,261,262,264,265,266,268,269,271,272,273,275,276,278,279,280,282,283,285,286,287,289,290,292,293,294,296,297,299,300,301,303,304,306,307,308,310,311,313,314,315,316,317,318,319,322,324,325,327,328,329,331,332,334,335,336,339,340,341,344,345,346,349,350,351,353,354,356,357,365,367,368,370,371,372,374,375,377,378,379,381,382,384,385,386,388,389,391,392,393,396,397,398,400,401,403,404,405,407,408,410,411,412,415,416,417,419,420,422,423,424,425,426,427,428,431,434,435,436,438,439,441,442,450,452,453,455,456,457,459,460,462,463,464,465,466,467,468,471,478,480,481,483,484,485,487,488,490,491,492,494,495,497,498,499,500,501,504,511,513,514,516,517,518,520,521,523,524,525,528,529,530,531,532,535,542,544,545,547,548,549,551,552,554,555,556,557,558,561,568,570,571,573,574,575,577,578,580,581,582,583,584,587,594,596,597,599,600,601,603,604,606,607,608,609,610,613,620,622,623,625,626,627,629,630,632,633,634,635,636,639,646,648,649,651,652,653,655,656,658,659,660,661,662,665,672,674,675,677,678,679,681,682,684,685,686,689,690,691,694,695,696,697,698,701,708,710,711,713,714,715,717,718,720,721,722,723,724,727,729,730,732,733,734,736,737,739,740,741,743,744,746,747,748,751,752,753,756,757,758,761,762,763,766,767,768,770,771,773,774,775,777,778,780,781,782,784,785,787,788,799,801,802,804,805,806,808,809,811,812,813,816,817,818,821,822,823,825,826,828,829,830,833,834,835,837,838,840,841]
theorem kl_eq:∀ P,kl=(kk P).map (·.1):=by
 intro P
 kernel_rfl
abbrev hk:Hook:=kmHook kk kl kl_eq [418]
def xt (s:Shared):Bool:=xlAt vw [] s&&recOk (RowW.records (OpenRow.toRowW (OpenLaw.row PySem.Challenge.rw_roomward_k35_told_machines))) s
theorem lk1:∀ w:World,(λos=>staticsOk (importedModules pp.main.body) (boot_heap w.params) (Hf w.params)&&namesBound pp (Hf w.params)&&gensDone (Hd.Sh Hf 1286 w os)&&laidKept (boot_heap w.params) (Hf w.params))=λ_=>true:=by
 intro w
 kernel_rfl
theorem lk2:∀ w:World,(λos=>Hd.fSeen vw [] (importedModules pp.main.body) xt true (Hd.Sh Hf 1286 w os))=λ_=>openGood vw []:=by
 intro w
 kernel_rfl
theorem lk3:∀ w:World,(λos=>hk.obs (Hd.Sh Hf 1286 w os))=λ_=>hk.val w:=by
 intro w
 kernel_rfl
theorem aOu:[tp 0,tp 1,tp 2]++([tp 3]++([tp 4]++([tp 5]++([tp 6]++([tp 7]++([tp 8,tp 9,tp 10,tp 11,tp 12,tp 13,tp 14,tp 15,tp 16,tp 17]++([tp 18]++([tp 19,tp 20,tp 21,tp 22,tp 23]++([tp 24]++([tp 25,tp 26,tp 27,tp 28,tp 29,tp 30,tp 31,tp 32,tp 33]++([tp 34]++([tp 35,tp 36,tp 37,tp 38,tp 39,tp 40,tp 41]++([tp 42]++([tp 43]++([tp 44]++([tp 45]++([tp 46]++([tp 47]++([tp 48]++([tp 49]++([tp 50,tp 51,tp 52,tp 53,tp 54]++([tp 55,tp 56,tp 57,tp 58,tp 59,tp 60,tp 61,tp 62,tp 63,tp 64,tp 65,tp 66,tp 67,tp 68]++([tp 69,tp 70]++[])))))))))))))))))))))))=behindTheImports pp:=by
 kernel_rfl
theorem left:LeftO pp vw [] xt hk.obs hk.val 14248 true:=
 Hd.left_of (by kernel_rfl) (λs=>by kernel_rfl) (by decide) (by decide) (Hd.top_run pre blk aOu (pc1.run (pc2.run (pc3.run (pc4.run (pc5.run (pc6.run (pc7.run (pc8.run (pc9.run (pc10.run (pc11.run (pc12.run (pc13.run (pc14.run (pc15.run (pc16.run (pc17.run (pc18.run (pc19.run (pc20.run (pc21.run (pc22.run (pc23.run (pc24.run fin.run))))))))))))))))))))))))) lk1 lk2 lk3
end
end K35H
open PySem PySem.W PyProof.Rows
set_option maxRecDepth 100000 in
set_option maxHeartbeats 0 in
theorem PySem.Challenge.cw_roomward_k35_told_machines_holds : PySem.Challenge.rw_roomward_k35_told_machines.Holds := by
 w_on; o_law
 refine holds_open (q:=K35H.vw) (loose:=[]) (Xt:=K35H.xt) (XP:=XL K35H.vw [])
  (Yf:=Hook.obs (kmHook K35H.kk K35H.kl K35H.kl_eq [418])) (Ya:=Hook.val (kmHook K35H.kk K35H.kl K35H.kl_eq [418])) (YP:=Hook.says (kmHook K35H.kk K35H.kl K35H.kl_eq [418]))
  (N:=14248) K35H.left (Hook.of (kmHook K35H.kk K35H.kl K35H.kl_eq [418])) (Hook.keeps (kmHook K35H.kk K35H.kl K35H.kl_eq [418])) ?x XL.keeps (by rfl) (by rfl) (by rfl) ?f ?wr ?k1 ?ok ?b ?hw ?hc
 case x=>exact λs e=>xl_of s (Bool.and_eq_true_iff.mp e).1
 case f=>exact λs e=>recFacts_of (Bool.and_eq_true_iff.mp e).2
 case wr=>rfl
 case k1=>first
  | assumption
  | decide +kernel
 case ok=>decide +kernel
 case b=>exact⟨rfl,rfl,rfl,rfl,rfl,by decide +kernel⟩
 case hw=>w_witness2
 k_fill
 refine' K35.walk (cR:=422) (l:=PySem.Challenge.rw_roomward_k35_told_machines) 418 rfl rfl (λw h Y=>⟨PySem.W.km_in_of Y,λp hp=>PySem.W.km_tabs_of Y p hp⟩) ?F ?hK
 case F=>
  intro w mg fa h KX G hmg
  refine' K35.all_mk KX G hmg ..
  any_goals first
   | exact⟨by k_is,L2.fun_mk (by k_is) (by k_is) (by k_is)⟩
   | exact⟨by k_is,L2.fun_mk (by k_is) (by k_is) (by k_is),by k_is⟩
   | exact⟨by k_is,by k_is,by k_is⟩
   | exact⟨by k_is,by k_is,by k_is,by k_is⟩
   | exact⟨⟨by k_is,by k_is,by k_is,by k_is⟩,show PySem.W.findIn _ _ _=some none by k_is,show PySem.W.findIn _ _ _=some none by k_is⟩
   | exact⟨⟨by k_is,by k_is,by k_is,by k_is⟩,show PySem.W.findIn _ _ _=some none by k_is,show PySem.W.findIn _ _ _=some none by k_is,show PySem.W.findIn _ _ _=some none by k_is,show PySem.W.findIn _ _ _=some none by k_is⟩
   | exact⟨⟨by k_is,by k_is,by k_is,by k_is⟩,show PySem.W.findIn _ _ _=some none by k_is,show PySem.W.findIn _ _ _=some none by k_is,show PySem.W.findIn _ _ _=some none by k_is,show PySem.W.findIn _ _ _=some none by k_is,show PySem.W.findIn _ _ _=some none by k_is⟩
   | exact⟨⟨by k_is,by k_is,by k_is,by k_is⟩,by k_is,by k_is,by k_is,by k_is⟩
   | exact⟨show PySem.W.excIn _ _ _ _=true by kernel_rfl,by k_is,by k_is,by k_is,by k_is,by k_is⟩
   | k_is
   | kernel_rfl
   | exact show PySem.W.findIn _ _ _=some none by k_is
   | exact show PySem.W.excIn _ _ _ _=true by kernel_rfl
 case hK=>
  intro w p hp;rw[List.mem_singleton.mp hp];exact⟨by kernel_rfl,by kernel_rfl⟩
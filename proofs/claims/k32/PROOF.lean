import PyProof.Rows.All
import Wide.All
import OpenK.AllK
import Wide.FinOn
import Lean
import PyProof.EqAt
import PyProof.EqKinds
import PyProof.TupleCall
import PyProof.NeKinds
import PyProof.Rows.SetFrom
import PyProof.SetRoads
import KE.KRevSl
import PySem.Challenge.RW_roomward_k32_whole_rules_keep
set_option Elab.async false
set_option linter.all false
set_option maxRecDepth 100000
set_option maxHeartbeats 4000000
namespace L2
open PySem PySem.Spec PyProof.Rows

noncomputable abbrev Key := Sum Int Str
noncomputable def keyIs : Key → Value → Bool
  | .inl k, v => Value.isInt k v
  | .inr x, v => Value.isStrOf x v
noncomputable def keyH (w : World) : Key → Int
  | .inl k => hashInt k
  | .inr x => hashStr w x
theorem keyIs_shape : ∀ {k : Key} {v : Value}, keyIs k v = true → (∃ i t, k = Sum.inl i ∧ v = Value.int i t) ∨ (∃ x t, k = Sum.inr x ∧ v = Value.str x t)
  | .inl i, v, h => by
    obtain ⟨t, e⟩ := Value.isInt_shape (k := i) (v := v) h
    exact .inl ⟨i, t, rfl, e⟩
  | .inr x, v, h => by
    obtain ⟨t, e⟩ := Value.isStrOf_shape (x := x) (v := v) h
    exact .inr ⟨x, t, rfl, e⟩
theorem keyIs_int (i : Int) (t : Tok) : keyIs (.inl i) (.int i t) = true := by simp [keyIs, Value.isInt]
theorem keyIs_str (x : Str) (t : Tok) : keyIs (.inr x) (.str x t) = true := by simp [keyIs, Value.isStrOf]
theorem key_ll (a b : Int) : decide ((Sum.inl a : Key) = Sum.inl b) = (a == b) := by
  by_cases e : a = b
  · subst e; simp
  · have h : ¬ (Sum.inl a : Key) = Sum.inl b := fun q => e (Sum.inl.inj q)
    rw [decide_eq_false h]
    exact (beq_eq_false_iff_ne.mpr e).symm
theorem key_rr (a b : Str) : decide ((Sum.inr a : Key) = Sum.inr b) = decide (a = b) := by
  by_cases e : a = b
  · subst e; simp
  · have h : ¬ (Sum.inr a : Key) = Sum.inr b := fun q => e (Sum.inr.inj q)
    rw [decide_eq_false h, decide_eq_false e]
theorem key_lr (a : Int) (b : Str) : decide ((Sum.inl a : Key) = Sum.inr b) = false := decide_eq_false (fun q => nomatch q)
theorem key_rl (a : Str) (b : Int) : decide ((Sum.inr a : Key) = Sum.inl b) = false := decide_eq_false (fun q => nomatch q)

noncomputable def mixKind (prog : Program) (w : World) : PySem.KeyKind prog w Key where
  is := keyIs
  hash := keyH w
  inj := fun v a b ha hb => by
    rcases keyIs_shape ha with ⟨i, t, rfl, rfl⟩ | ⟨x, t, rfl, rfl⟩
    · rcases keyIs_shape hb with ⟨j, u, rfl, e⟩ | ⟨y, u, rfl, e⟩
      · injection e with e1 _; rw [e1]
      · exact nomatch e
    · rcases keyIs_shape hb with ⟨j, u, rfl, e⟩ | ⟨y, u, rfl, e⟩
      · exact nomatch e
      · injection e with e1 _; rw [e1]
  byValue := fun k v h => by
    rcases keyIs_shape h with ⟨i, t, rfl, rfl⟩ | ⟨x, t, rfl, rfl⟩ <;> rfl
  pyHash := fun hv h => by
    rcases keyIs_shape hv with ⟨i, t, rfl, rfl⟩ | ⟨x, t, rfl, rfl⟩
    · exact wpAny_pyHash_int h
    · exact wpAny_pyHash_str h
  eqBool := fun hu hv h => by
    rcases keyIs_shape hu with ⟨i, t, rfl, rfl⟩ | ⟨x, t, rfl, rfl⟩
    · rcases keyIs_shape hv with ⟨j, u, rfl, rfl⟩ | ⟨y, u, rfl, rfl⟩
      · rw [key_ll] at h; exact wpAny_eqBool_int h
      · rw [key_lr] at h; exact SeqAt.EqAt.int_str i t y u _ _ _ _ h
    · rcases keyIs_shape hv with ⟨j, u, rfl, rfl⟩ | ⟨y, u, rfl, rfl⟩
      · rw [key_rl] at h; exact SeqAt.EqAt.str_int x t j u _ _ _ _ h
      · rw [key_rr] at h; exact wpAny_eqBool_str h
  «strs» := fun k x t v h => by
    rcases keyIs_shape h with ⟨i, u, rfl, e⟩ | ⟨y, u, rfl, e⟩
    · exact nomatch e
    · injection e with e1 _
      subst e1
      cases v <;> rfl

theorem mixKind_int (prog : Program) (w : World) (i : Int) (t : Tok) : (mixKind prog w).is (.inl i) (.int i t) = true := keyIs_int i t
theorem mixKind_str (prog : Program) (w : World) (x : Str) (t : Tok) : (mixKind prog w).is (.inr x) (.str x t) = true := keyIs_str x t
end L2

namespace L2
open PySem PySem.Spec PyProof.Rows

inductive V where
  | non | bl (b : Bool) | int (i : Int) | str (x : Str) | byt (b : Array UInt8) | flt (b : UInt64) | ref (a : Addr) | ty (n : String)
  deriving DecidableEq

noncomputable def RelV : V → Value → Prop
  | .non, u => u = Value.none
  | .bl b, u => u = Value.bool b
  | .int i, u => ∃ t, u = Value.int i t
  | .str x, u => ∃ t, u = Value.str x t
  | .byt b, u => ∃ t, u = Value.bytes b t
  | .flt b, u => ∃ t, u = Value.float b t
  | .ref a, u => u = Value.ref a
  | .ty n, u => u = Value.type n

noncomputable abbrev Vals : List V → List Value → Prop := Paired RelV
theorem Vals.length {xs : List V} {us : List Value} (r : Vals xs us) : xs.length = us.length := Paired.length r
theorem Vals.get : ∀ {xs : List V} {us : List Value} {i : Nat} {x : V}, Vals xs us → xs[i]? = some x → ∃ u, us[i]? = some u ∧ RelV x u
  | _, _, _, _, .nil, e => by simp at e
  | _, _, 0, _, .cons r _, e => by simp at e; subst e; exact ⟨_, rfl, r⟩
  | _, _, i + 1, x, .cons _ t, e => by
    obtain ⟨u, h1, h2⟩ := Vals.get (i := i) (x := x) t (by simpa using e)
    exact ⟨u, by simpa using h1, h2⟩
theorem Vals.append : ∀ {xs ys : List V} {us ws : List Value}, Vals xs us → Vals ys ws → Vals (xs ++ ys) (us ++ ws)
  | _, _, _, _, .nil, s => s
  | _, _, _, _, .cons r t, s => .cons r (Vals.append t s)
theorem Vals.take : ∀ {xs : List V} {us : List Value} (n : Nat), Vals xs us → Vals (xs.take n) (us.take n)
  | _, _, 0, _ => .nil
  | _, _, _ + 1, .nil => .nil
  | _, _, n + 1, .cons r t => .cons r (Vals.take n t)
theorem Vals.drop : ∀ {xs : List V} {us : List Value} (n : Nat), Vals xs us → Vals (xs.drop n) (us.drop n)
  | _, _, 0, r => r
  | _, _, _ + 1, .nil => .nil
  | _, _, n + 1, .cons _ t => Vals.drop n t

noncomputable def RelO : Option V → Option Value → Prop
  | some v, some u => RelV v u
  | none, none => True
  | _, _ => False
noncomputable def KV {κ : Type} : List (κ × V) → List (κ × Value) → Prop := Paired fun (p : κ × V) (q : κ × Value) => p.1 = q.1 ∧ RelV p.2 q.2

noncomputable def kV : Key → V
  | .inl i => .int i
  | .inr x => .str x

inductive HO where
    | lst (xs : List V)
    | tup (xs : List V)
    | dK (kvs : List (Key × V)) | dT (kvs : List (List Key × V))
    | set (S : Int → Bool) (n : Nat)
    | ins (C dx : Addr) (fs : List (Str × V))
    | own (x : Addr)
    | xd (fs : List (Str × V))
    | met (f x : Addr)
    | rng (lo hi : Int)
    | frz (o : Obj) (u : HO)
    | tbl (ps : Array Value)
    | ext (φ : Heap → Prop)

noncomputable abbrev Hp := Addr → Option HO
noncomputable def upd (H : Hp) (a : Addr) (o : HO) : Hp := fun b => if b = a then some o else H b
theorem upd_same {H : Hp} {a : Addr} {o : HO} : upd H a o a = some o := by unfold upd; rw [if_pos rfl]
theorem upd_ne {H : Hp} {a b : Addr} {o : HO} (h : b ≠ a) : upd H a o b = H b := by unfold upd; rw [if_neg h]
theorem ne_of {H : Hp} {a b : Addr} {o u : HO} (h : H a = some o) (h' : H b = some u) (d : o ≠ u) : a ≠ b := by
  intro e; subst e; rw [h] at h'; exact d (Option.some.inj h')
theorem ne_of_none {H : Hp} {a b : Addr} {o : HO} (h : H a = some o) (h' : H b = none) : a ≠ b := by
  intro e; subst e; rw [h] at h'; cases h'

section
variable (P : Program) (w : World)
noncomputable def ObjOk (H : Hp) (h : Heap) (a : Addr) : HO → Prop
  | .lst xs => xs.length ≤ sizeLine ∧ ∃ (its : List Value) (n : Nat), Vals xs its ∧ h.get? a = some { cls := .type "list", data := .seq its.toArray n }
  | .tup xs => xs.length ≤ sizeLine ∧ ∃ its : List Value, Vals xs its ∧ IsTup h a its.toArray
  | .dK kvs => kvs.length ≤ sizeLine ∧ (a == sysModules) = false ∧ ∃ vs, KV kvs vs ∧ h.DictOf (mixKind P w) a vs
  | .dT kvs => kvs.length ≤ sizeLine ∧ (a == sysModules) = false ∧ ∃ xs : List (List Key × Addr × Value),
      Paired (fun (p : List Key × V) (q : List Key × Addr × Value) => p.1 = q.1 ∧ H q.2.1 = some (.tup (p.1.map kV)) ∧ RelV p.2 q.2.2) kvs xs ∧
      ∃ o es ep, h.get? a = some o ∧ o.ExactDict ∧ o.data = .dict es ep ∧ es.toList = xs.map (entryOfKey (tupleKind (mixKind P w))) ∧ (xs.map (·.1)).Nodup
  | .set S n => h.SetOf (intKind P w) a S n
  | .ins C dx fs => H dx = some (.own a) ∧ fs.length ≤ 1000 ∧ dx ≠ a ∧ h.get? a = some (PySem.W.instObj C dx) ∧
      ∃ mA, h.Ns1 dx mA ∧ (∀ f, RelO (fs.lookup f) (mA f)) ∧ PySem.Within mA (fs.map (·.1))
  | .own _ => ∃ o, h.get? a = some o
  | .xd fs => ∃ mA, h.Ns1 a mA ∧ ∀ f, RelO (fs.lookup f) (mA f)
  | .rng lo hi => ∃ t u v, h.get? a = some { cls := .type "range", data := .fields #[.int lo t, .int hi u, .int 1 v] }
  | .frz o u => h.get? a = some o ∧ ObjOk H h a u
  | .tbl ps => h.get? a = some { cls := .none, data := .fields ps }
  | .met f x => h.get? a = some (PySem.W.methodObj (.ref f) (.ref x))
  | .ext φ => φ h ∧ (∃ o, h.get? a = some o) ∧ ∀ h1 h2 : Heap, φ h1 → (∀ o, h1.get? a = some o → h2.get? a = some o) → φ h2
noncomputable def HOk (H : Hp) (h : Heap) : Prop := ∀ a o, H a = some o → ObjOk P w H h a o
end

section
variable {P : Program} {w : World} {H H' : Hp} {h h' : Heap} {a : Addr} {o : HO}
theorem ObjOk.lt (x : ObjOk P w H h a o) : a < h.objs.size := by
  cases o with
  | lst xs => obtain ⟨_, _, _, _, e⟩ := x; exact Heap.lt_size e
  | tup xs => obtain ⟨_, _, _, p⟩ := x; exact p.lt
  | dK kvs => obtain ⟨_, _, _, _, o, _, _, e, _⟩ := x; exact Heap.lt_size e
  | dT kvs => obtain ⟨_, _, _, _, o, _, _, e, _⟩ := x; exact Heap.lt_size e
  | set S n => obtain ⟨o, _, _, _, e, _⟩ := x; exact Heap.lt_size e
  | ins C dx fs => obtain ⟨_, _, _, e, _⟩ := x; exact Heap.lt_size e
  | own y => obtain ⟨_, e⟩ := x; exact Heap.lt_size e
  | xd fs => obtain ⟨_, ⟨_, _, _, e, _⟩, _⟩ := x; exact Heap.lt_size e
  | rng lo hi => obtain ⟨_, _, _, e⟩ := x; exact Heap.lt_size e
  | frz ob u => obtain ⟨e, _⟩ := x; exact Heap.lt_size e
  | tbl ps => exact Heap.lt_size (show h.get? a = some _ from x)
  | met f y => exact Heap.lt_size (show h.get? a = some _ from x)
  | ext φ => obtain ⟨_, ⟨_, e⟩, _⟩ := x; exact Heap.lt_size e
theorem Paired.mapP {α β : Type} {F G : α → β → Prop} : ∀ {l₁ : List α} {l₂ : List β}, Paired F l₁ l₂ → (∀ a b, F a b → G a b) → Paired G l₁ l₂
  | _, _, .nil, _ => .nil
  | _, _, .cons r t, f => .cons (f _ _ r) (Paired.mapP t f)
theorem ObjOk.stay (x : ObjOk P w H h a o) (k : ∀ b u, (b = a ∨ H b = some (.own a)) → h.get? b = some u → h'.get? b = some u)
    (ho : ∀ b, H b = some (.own a) → H' b = some (.own a)) (ht : ∀ b xs, H b = some (.tup xs) → H' b = some (.tup xs)) : ObjOk P w H' h' a o := by
  induction o with
  | lst xs => obtain ⟨z, its, n, r, e⟩ := x; exact ⟨z, its, n, r, k _ _ (.inl rfl) e⟩
  | tup xs => obtain ⟨z, its, r, ob, e, c⟩ := x; exact ⟨z, its, r, ob, k _ _ (.inl rfl) e, c⟩
  | dK kvs => obtain ⟨z, y, vs, r, ob, es, ep, e, c⟩ := x; exact ⟨z, y, vs, r, ob, es, ep, k _ _ (.inl rfl) e, c⟩
  | dT kvs =>
    obtain ⟨z, y, xs, r, ob, es, ep, e, c⟩ := x
    exact ⟨z, y, xs, Paired.mapP r fun p q z => ⟨z.1, ht _ _ z.2.1, z.2.2⟩, ob, es, ep, k _ _ (.inl rfl) e, c⟩
  | set S n => obtain ⟨ob, es, ep, t, e, c⟩ := x; exact ⟨ob, es, ep, t, k _ _ (.inl rfl) e, c⟩
  | ins C dx fs =>
    obtain ⟨d, z, ne, e, mA, ⟨od, es, ep, e2, c⟩, r⟩ := x
    exact ⟨ho _ d, z, ne, k _ _ (.inl rfl) e, mA, ⟨od, es, ep, k _ _ (.inr d) e2, c⟩, r⟩
  | own y => obtain ⟨ob, e⟩ := x; exact ⟨ob, k _ _ (.inl rfl) e⟩
  | xd fs => obtain ⟨mA, ⟨od, es, ep, e, c⟩, r⟩ := x; exact ⟨mA, ⟨od, es, ep, k _ _ (.inl rfl) e, c⟩, r⟩
  | rng lo hi => obtain ⟨t, u, v, e⟩ := x; exact ⟨t, u, v, k _ _ (.inl rfl) e⟩
  | frz ob u ih => obtain ⟨e, q⟩ := x; exact ⟨k _ _ (.inl rfl) e, ih q⟩
  | tbl ps =>
    have e : h.get? a = some { cls := .none, data := .fields ps } := x
    show h'.get? a = some { cls := .none, data := .fields ps }
    exact k a _ (.inl rfl) e
  | met f y =>
    have e : h.get? a = some (PySem.W.methodObj (.ref f) (.ref y)) := x
    show h'.get? a = some (PySem.W.methodObj (.ref f) (.ref y))
    exact k a _ (.inl rfl) e
  | ext φ => obtain ⟨p, ⟨o, e⟩, st⟩ := x; exact ⟨st _ _ p fun o q => k _ _ (.inl rfl) q, ⟨o, k _ _ (.inl rfl) e⟩, st⟩
theorem HOk.lt (x : HOk P w H h) (e : H a = some o) : a < h.objs.size := (x a o e).lt
theorem HOk.fresh (x : HOk P w H h) (e : h.objs.size ≤ a) : H a = none := by
  cases q : H a with
  | none => rfl
  | some u => exact absurd (Nat.lt_of_lt_of_le (x.lt q) e) (Nat.lt_irrefl _)
theorem HOk.kept (x : HOk P w H h) (k : ∀ b u, h.get? b = some u → h'.get? b = some u) : HOk P w H h' := fun a o e =>
  (x a o e).stay (fun b u _ q => k b u q) (fun _ q => q) fun _ _ q => q
theorem HOk.laid (x : HOk P w H h) (k : ∀ b u, h.get? b = some u → h'.get? b = some u) (hp : h.objs.size ≤ a) (new : ObjOk P w (upd H a o) h' a o) : HOk P w (upd H a o) h' := fun b u e => by
  have hn := x.fresh hp
  by_cases hb : b = a
  · subst hb; rw [upd_same] at e; cases e; exact new
  · rw [upd_ne hb] at e
    exact (x b u e).stay (fun c v _ q => k c v q) (fun c q => by rw [upd_ne (ne_of_none q hn)]; exact q) fun c xs q => by rw [upd_ne (ne_of_none q hn)]; exact q
end

noncomputable def Rd (H : Hp) (a : Addr) (u : HO) : Prop := H a = some u ∨ ∃ o, H a = some (.frz o u)
theorem Rd.ok {P : Program} {w : World} {H : Hp} {h : Heap} {a : Addr} {u : HO} (r : Rd H a u) (x : HOk P w H h) : ObjOk P w H h a u := by
  rcases r with r | ⟨o, r⟩
  · exact x a u r
  · obtain ⟨_, q⟩ := x a _ r
    exact q
noncomputable def Mut : Option HO → Prop
  | some (.lst _) => True
  | some (.dK _) => True
  | some (.dT _) => True
  | some (.set _ _) => True
  | some (.ins _ _ _) => True
  | some (.ext _) => True
  | _ => False
section
variable {P : Program} {w : World} {H : Hp} {h h' : Heap} {x e : Addr} {o' : HO}
theorem HOk.write (ok : HOk P w H h) (mu : Mut (H x)) (he : e = x ∨ H e = some (.own x)) (k : ∀ b u, b ≠ e → h.get? b = some u → h'.get? b = some u) (heo : ∃ u, h'.get? e = some u)
    (new : ObjOk P w (upd H x o') h' x o') : HOk P w (upd H x o') h' := fun b u q => by
  have nown : ∀ c y, H c = some (.own y) → c ≠ x := fun c y r z => by subst z; rw [r] at mu; exact mu
  have ntup : ∀ c xs, H c = some (.tup xs) → c ≠ x := fun c xs r z => by subst z; rw [r] at mu; exact mu
  by_cases hb : b = x
  · subst hb; rw [upd_same] at q; cases q; exact new
  · rw [upd_ne hb] at q
    by_cases hbe : b = e
    · have q' : H b = some (.own x) := by
        rcases he with z | z
        · exact absurd (hbe.trans z) hb
        · rw [hbe]; exact z
      rw [q] at q'; cases q'
      obtain ⟨v, hv⟩ := heo
      exact ⟨v, by rw [hbe]; exact hv⟩
    · refine (ok b u q).stay (fun c v hc r => k c v ?_ r) (fun c r => by rw [upd_ne (nown c b r)]; exact r) fun c xs r => by rw [upd_ne (ntup c xs r)]; exact r
      rcases hc with rfl | hc
      · exact hbe
      · rintro rfl
        rcases he with z | z
        · exact nown c b hc z
        · rw [hc] at z; cases z; exact hb rfl
end

structure Un (fs ex : List Addr) (H H' : Hp) (h h' : Heap) : Prop where
  keep : ∀ b o, h.get? b = some o → H b = none → b ∉ fs → b ∉ ex → h'.get? b = some o
  slot : ∀ b o, h.get? b = some o → H b = none → b ∈ fs → b ∉ ex → ∃ sl, h'.get? b = some { o with slots := sl }
  free : ∀ b o, h.get? b = some o → H b = none → b ∉ ex → H' b = none
  there : ∀ b o, h.get? b = some o → b ∉ ex → ∃ o', h'.get? b = some o'
  tups : ∀ b xs, H b = some (.tup xs) → H' b = some (.tup xs)
  frzs : ∀ b o u, H b = some (.frz o u) → H' b = some (.frz o u)
  tbls : ∀ b ps, H b = some (.tbl ps) → ∃ more, H' b = some (.tbl (ps ++ more))
section
variable {fs fs' ex ex' : List Addr} {H H1 H2 : Hp} {h h1 h2 h' : Heap} {a x e : Addr} {o : HO}
theorem Un.any (u : Un fs ex H H1 h h1) {b : Addr} {ob : Obj} (q : h.get? b = some ob) (n : H b = none) (hx : b ∉ ex) : ∃ sl, h1.get? b = some { ob with slots := sl } := by
  by_cases hb : b ∈ fs
  · exact u.slot b ob q n hb hx
  · exact ⟨ob.slots, u.keep b ob q n hb hx⟩
theorem Un.kept (k : ∀ b u, h.get? b = some u → h'.get? b = some u) : Un fs ex H H h h' :=
  ⟨fun b ob q _ _ _ => k b ob q, fun b ob q _ _ _ => ⟨ob.slots, k b ob q⟩, fun _ _ _ n _ => n, fun b ob q _ => ⟨ob, k b ob q⟩, fun _ _ q => q, fun _ _ _ q => q, fun _ ps q => ⟨#[], by rw [q]; simp⟩⟩
theorem Un.refl : Un fs ex H H h h := Un.kept fun _ _ q => q
theorem Un.laid (k : ∀ b u, h.get? b = some u → h'.get? b = some u) (hp : h.objs.size ≤ a) (hn : H a = none) : Un fs ex H (upd H a o) h h' where
  keep := fun b u q _ _ _ => k b u q
  slot := fun b u q _ _ _ => ⟨u.slots, k b u q⟩
  free := fun b u q n _ => by rw [upd_ne (Nat.ne_of_lt (Nat.lt_of_lt_of_le (Heap.lt_size q) hp))]; exact n
  there := fun b u q _ => ⟨u, k b u q⟩
  tups := fun b xs q => by rw [upd_ne (ne_of_none q hn)]; exact q
  frzs := fun b u xs q => by rw [upd_ne (ne_of_none q hn)]; exact q
  tbls := fun b ps q => ⟨#[], by rw [upd_ne (ne_of_none q hn), q]; simp⟩
theorem Un.write (mu : Mut (H x)) (he : e = x ∨ H e = some (.own x)) (k : ∀ b u, b ≠ e → h.get? b = some u → h'.get? b = some u) (heo : ∃ u, h'.get? e = some u) : Un fs ex H (upd H x o) h h' := by
  have hx : ∀ b, H b = none → b ≠ x := fun b n z => by subst z; rw [n] at mu; exact mu
  have hb : ∀ b, H b = none → b ≠ e := fun b n z => by
    subst z
    rcases he with r | r
    · exact hx b n r
    · rw [n] at r; cases r
  have hm : ∀ b u, H b = some u → ¬ Mut (some u) → b ≠ x := fun b u q nm z => by subst z; rw [q] at mu; exact nm mu
  refine ⟨fun b u q n _ _ => k b u (hb b n) q, fun b u q n _ _ => ⟨u.slots, k b u (hb b n) q⟩, fun b u q n _ => by rw [upd_ne (hx b n)]; exact n, fun b u q _ => ?_,
    fun b xs q => by rw [upd_ne (hm b _ q fun z => z)]; exact q, fun b u xs q => by rw [upd_ne (hm b _ q fun z => z)]; exact q, fun b ps q => ⟨#[], by rw [upd_ne (hm b _ q fun z => z), q]; simp⟩⟩
  by_cases hbe : b = e
  · subst hbe; exact heo
  · exact ⟨u, k b u hbe q⟩
end

noncomputable def trk (h : Heap) (H : Hp) : List Addr := (List.range h.objs.size).filter fun a => (H a).isSome
noncomputable def hidT (h : Heap) (H : Hp) : Heap := PySem.W.hideAll h (trk h H)
theorem hidT_size (h : Heap) (H : Hp) : (hidT h H).objs.size = h.objs.size := PySem.W.hideAll_size _ _
theorem hidT_get {h : Heap} {H : Hp} {b : Addr} {o : Obj} (e : h.get? b = some o) (n : H b = none) : (hidT h H).get? b = some o :=
  PySem.W.hideAll_get _ e fun hm => by
    have q : (H b).isSome = true := (List.mem_filter.mp hm).2
    rw [n] at q; simp at q
theorem of_hidT {h : Heap} {H : Hp} {b : Addr} {o : Obj} (e : (hidT h H).get? b = some o) : h.get? b = some o ∧ H b = none := by
  have e' : h.get? b = some o := PySem.W.of_hideAll (trk h H) e
  refine ⟨e', ?_⟩
  cases q : H b with
  | none => rfl
  | some x =>
    have hm : b ∈ trk h H := List.mem_filter.mpr ⟨List.mem_range.mpr (Heap.lt_size e'), by simp [q]⟩
    have z : (hidT h H).get? b = none := PySem.W.hideAll_none (trk h H) hm
    rw [z] at e; cases e

end L2

namespace L2
open PySem PySem.Spec PyProof.Rows

structure Mod (K : PySem.W.Frag) (mg : Str → Option Value) (base : Heap) : Prop where
  kin : K.In base
  glob : base.Ns mainGlobals mg
  blt : ∃ mb, base.Ns builtinsNs mb ∧ ∀ x : Str, x ≠ "__name__" → mb x = bootBuiltins x
  nolimit : base.NoLimit

structure Cx where
  prog : Program
  w : World
  K : PySem.W.Frag
  mg : Str → Option Value
  base : Heap
  A : Around
  N : List Str
  s₀ : Shared
  H₀ : Hp
  env : Env
  outer : List Env
  stack : List Env
  ex : List Addr
  fn : Str → Bool
  calm : Bool
  pn : List (Addr × Obj)
  xe : Value → Shared → Prop
noncomputable def frs (l : List Env) : List Addr := l.filterMap (·.frame)
noncomputable abbrev Cx.fs (X : Cx) : List Addr := frs X.outer

noncomputable def Vis (sc : Scope) (x : Str) : Prop := sc.names.lookup x = some .local ∨ sc.names.lookup x = some .cell ∨ sc.names.lookup x = some .free
noncomputable def Loc (sc : Scope) (x : Str) : Prop := sc.names.lookup x = some .local ∨ sc.names.lookup x = some .cell
noncomputable def Look (env : Env) (h : Heap) (m : Str → Option Value) (x : Str) (u : Value) : Prop :=
  (env.kindOf x = some .local ∧ m x = some u) ∨ ((env.kindOf x = some .cell ∨ env.kindOf x = some .free) ∧ ∃ c, env.cells.lookup x = some c ∧ h.IsCell c (some u))

structure Cx.Ok (X : Cx) : Prop where
  mod : Mod X.K X.mg X.base
  kind : X.env.scope.kind = .function
  glob : X.env.globals = mainGlobals
  blt : X.env.builtins = builtinsNs
  above : X.s₀.heap.objs.size ≤ X.env.locals
  inj : ∀ x y c, X.env.cells.lookup x = some c → X.env.cells.lookup y = some c → x = y
  has : ∀ x, (X.env.kindOf x = some .cell ∨ X.env.kindOf x = some .free) → ∃ c, X.env.cells.lookup x = some c
  cab : ∀ x c, X.fn x = true → X.env.cells.lookup x = some c → X.s₀.heap.objs.size ≤ c
  hd : X.calm = true → X.A.handled = none
  frames : X.A.frames = some X.stack
  stk : X.stack = X.outer ∨ (X.stack = X.env :: X.outer ∧ X.env.frame = some X.env.locals)
  exf : ∀ b ∈ X.ex, b ≠ X.env.locals ∧ ∀ x c, X.env.cells.lookup x = some c → c ≠ b
  bs : ∀ b o, X.base.get? b = some o → X.s₀.heap.get? b = some o ∧ X.H₀ b = none
  bsz : X.base.objs.size ≤ X.s₀.heap.objs.size
  noex : ∀ b o, X.base.get? b = some o → b ∉ X.ex
  exfs : ∀ b ∈ X.ex, b ∉ X.fs
  funs : X.s₀.heap.FunFrames X.base X.outer
  frf : ∀ b ∈ X.fs, X.H₀ b = none

structure Inv (X : Cx) (pins : List (Addr × Obj)) (σ : List (Option V)) (H : Hp) (s : Shared) : Prop where
  ok : X.Ok
  os : s.os = X.s₀.os
  bare : AllBare s.gens
  base : Un X.fs X.ex X.H₀ H X.s₀.heap s.heap
  loc : ∃ m, s.heap.Ns X.env.locals m ∧ ∀ (i : Nat) (x : Str) (v : V), X.N[i]? = some x → σ[i]? = some (some v) → Vis X.env.scope x → ∃ u, RelV v u ∧ Look X.env s.heap m x u
  cell : ∀ x c, X.env.cells.lookup x = some c → ∃ v, s.heap.IsCell c v
  free : H X.env.locals = none
  freeC : ∀ x c, X.env.cells.lookup x = some c → H c = none
  pin : ∀ p ∈ X.pn ++ pins, s.heap.get? p.1 = some p.2 ∧ H p.1 = none ∧ p.1 ≠ X.env.locals ∧ p.1 ∉ X.fs ∧ ∀ v, p.2.data ≠ .cell v
  hok : HOk X.prog X.w H s.heap
  len : σ.length = X.N.length

section
variable {X : Cx} {pins : List (Addr × Obj)} {σ : List (Option V)} {H H' : Hp} {s : Shared} {h' : Heap}

theorem Cx.Ok.nofr (ok : X.Ok) {b : Addr} {o : Obj} (e : X.base.get? b = some o) : b ∉ X.fs := fun hb => by
  have := (ok.funs.mem hb).1
  rw [e] at this; cases this
theorem Inv.bs (I : Inv X pins σ H s) : ∀ b o, X.base.get? b = some o → s.heap.get? b = some o ∧ H b = none := fun b o e =>
  ⟨I.base.keep b o (I.ok.bs b o e).1 (I.ok.bs b o e).2 (I.ok.nofr e) (I.ok.noex b o e), I.base.free b o (I.ok.bs b o e).1 (I.ok.bs b o e).2 (I.ok.noex b o e)⟩
theorem Inv.bk (I : Inv X pins σ H s) : ∀ b o, X.base.get? b = some o → s.heap.get? b = some o := fun b o e => (I.bs b o e).1
theorem Inv.mod (I : Inv X pins σ H s) : Mod X.K X.mg X.base := I.ok.mod
theorem Inv.kIn (I : Inv X pins σ H s) : X.K.In s.heap := I.ok.mod.kin.keeps I.bk
theorem Inv.lt (I : Inv X pins σ H s) : X.env.locals < s.heap.objs.size := let ⟨_, hn, _⟩ := I.loc; hn.lt
theorem Inv.sz (I : Inv X pins σ H s) : X.s₀.heap.objs.size ≤ s.heap.objs.size := Nat.le_trans I.ok.above (Nat.le_of_lt I.lt)
theorem Inv.nofs (I : Inv X pins σ H s) {a : Addr} (h : s.heap.objs.size ≤ a) : a ∉ X.fs := fun hb => by
  obtain ⟨_, o, ho, _⟩ := I.ok.funs.mem hb
  exact absurd (Nat.lt_of_lt_of_le (Heap.lt_size ho) (Nat.le_trans I.sz h)) (Nat.lt_irrefl _)
theorem Inv.cne (I : Inv X pins σ H s) : ∀ x c, X.env.cells.lookup x = some c → c ≠ X.env.locals := fun x c e z => by
  obtain ⟨v, o, ho, hd⟩ := I.cell x c e
  obtain ⟨m, ⟨o', es, ep, ho', hd', _⟩, _⟩ := I.loc
  rw [z, ho'] at ho; cases ho; rw [hd'] at hd; cases hd
theorem Inv.funs (I : Inv X pins σ H s) : s.heap.FunFrames X.base X.outer := by
  have all : ∀ (l : List Env), (∀ b ∈ frs l, b ∈ X.fs) → X.s₀.heap.FunFrames X.base l → s.heap.FunFrames X.base l := by
    intro l
    induction l with
    | nil => intro _ _; trivial
    | cons env r ih =>
      intro hs hl
      obtain ⟨hk, ⟨L, o, hf, hn, ho, hd⟩, hr⟩ := hl
      have hL : L ∈ X.fs := hs L (by unfold frs; rw [List.filterMap_cons, hf]; exact List.mem_cons_self)
      obtain ⟨sl, e⟩ := I.base.slot L o ho (I.ok.frf L hL) hL fun z => I.ok.exfs L z hL
      exact ⟨hk, ⟨L, _, hf, hn, e, hd⟩, ih (fun b hb => hs b (by unfold frs; rw [List.filterMap_cons, hf]; exact List.mem_cons_of_mem _ hb)) hr⟩
  exact all X.outer (fun _ hb => hb) I.ok.funs

theorem Inv.stack (I : Inv X pins σ H s) : s.heap.FunFrames X.base X.stack := by
  rcases I.ok.stk with e | ⟨e, hf⟩
  · rw [e]; exact I.funs
  · rw [e]
    obtain ⟨m, hn, _⟩ := I.loc
    refine .cons (by rw [I.ok.kind]; decide) hf hn ?_ I.funs
    exact Heap.get?_none_of_le (Nat.le_trans I.ok.bsz I.ok.above)
theorem Inv.stkSub (I : Inv X pins σ H s) : ∀ b ∈ frs X.stack, b ∈ X.env.locals :: X.fs := fun b hb => by
  rcases I.ok.stk with e | ⟨e, hf⟩
  · rw [e] at hb; exact List.mem_cons_of_mem _ hb
  · rw [e] at hb
    unfold frs at hb
    rw [List.filterMap_cons, hf] at hb
    exact hb
theorem Inv.stkFree (I : Inv X pins σ H s) : ∀ b ∈ frs X.stack, H b = none := fun b hb => by
  rcases List.mem_cons.mp (I.stkSub b hb) with e | hb
  · rw [e]; exact I.free
  · obtain ⟨_, o, ho, _⟩ := I.ok.funs.mem hb
    exact I.base.free b o ho (I.ok.frf b hb) fun z => I.ok.exfs b z hb

theorem Inv.step {g' : Array GenState} {t' : Nat} {d' : Drawn} {ch : List Addr} (I : Inv X pins σ H s)
    (hch : ∀ b ∈ ch, (b ∈ X.ex ∨ X.s₀.heap.objs.size ≤ b) ∧ b ≠ X.env.locals ∧ (∀ x c, X.env.cells.lookup x = some c → c ≠ b) ∧ ∀ p ∈ X.pn ++ pins, p.1 ≠ b)
    (keep : ∀ b o, b ≠ X.env.locals → b ∉ X.fs → b ∉ ch → s.heap.get? b = some o → H b = none → h'.get? b = some o)
    (slot : ∀ b o, b ≠ X.env.locals → b ∈ X.fs → b ∉ ch → s.heap.get? b = some o → H b = none → ∃ sl, h'.get? b = some { o with slots := sl }) (free : ∀ b o, b ∉ ch → s.heap.get? b = some o → H b = none → H' b = none)
    (there : ∀ b o, b ∉ ch → s.heap.get? b = some o → ∃ o', h'.get? b = some o')
    (tups : ∀ b xs, H b = some (.tup xs) → H' b = some (.tup xs)) (frzs : ∀ b o u, H b = some (.frz o u) → H' b = some (.frz o u)) (tbls : ∀ b ps, H b = some (.tbl ps) → ∃ more, H' b = some (.tbl (ps ++ more)))
    (ns : ∀ m, s.heap.Ns X.env.locals m → h'.Ns X.env.locals m) (hok : HOk X.prog X.w H' h') (hg : AllBare g') :
    Inv X pins σ H' { s with heap := h', gens := g', drawn := d', toks := t' } := by
  have neL : ∀ b o, X.s₀.heap.get? b = some o → b ≠ X.env.locals := fun b o e => Nat.ne_of_lt (Nat.lt_of_lt_of_le (Heap.lt_size e) I.ok.above)
  have neC : ∀ b o, X.s₀.heap.get? b = some o → b ∉ X.ex → b ∉ ch := fun b o e hx hb => by
    rcases (hch b hb).1 with z | z
    · exact hx z
    · exact absurd (Nat.lt_of_lt_of_le (Heap.lt_size e) z) (Nat.lt_irrefl _)
  have cellK : ∀ x c, X.env.cells.lookup x = some c → ∀ v, s.heap.IsCell c v → h'.IsCell c v := fun x c e v ⟨o, ho, hd⟩ => by
    have nch : c ∉ ch := fun z => (hch c z).2.2.1 x c e rfl
    by_cases hc : c ∈ X.fs
    · obtain ⟨sl, q⟩ := slot c o (I.cne x c e) hc nch ho (I.freeC x c e)
      exact ⟨_, q, hd⟩
    · exact ⟨o, keep c o (I.cne x c e) hc nch ho (I.freeC x c e), hd⟩
  refine ⟨I.ok, I.os, hg, ⟨fun b o e n hb hx => ?_, fun b o e n hb hx => ?_, fun b o e n hx => ?_, fun b o e hx => ?_, fun b xs e => tups b xs (I.base.tups b xs e), fun b o xs e => frzs b o xs (I.base.frzs b o xs e), fun b ps e => ?_⟩, ?_, fun x c e => ?_, ?_, fun x c e => ?_, fun p hp => ?_, hok, I.len⟩
  · exact keep b o (neL b o e) hb (neC b o e hx) (I.base.keep b o e n hb hx) (I.base.free b o e n hx)
  · obtain ⟨sl, e1⟩ := I.base.slot b o e n hb hx
    obtain ⟨sl', e2⟩ := slot b _ (neL b o e) hb (neC b o e hx) e1 (I.base.free b o e n hx)
    exact ⟨sl', e2⟩
  · obtain ⟨o', e1⟩ := I.base.there b o e hx
    exact free b o' (neC b o e hx) e1 (I.base.free b o e n hx)
  · obtain ⟨o', e1⟩ := I.base.there b o e hx
    exact there b o' (neC b o e hx) e1
  · obtain ⟨m1, e1⟩ := I.base.tbls b ps e
    obtain ⟨m2, e2⟩ := tbls b _ e1
    exact ⟨m1 ++ m2, by rw [e2, Array.append_assoc]⟩
  · obtain ⟨m, hn, hl⟩ := I.loc
    refine ⟨m, ns m hn, fun i x v e1 e2 e3 => ?_⟩
    obtain ⟨u, r, l⟩ := hl i x v e1 e2 e3
    refine ⟨u, r, ?_⟩
    rcases l with l | ⟨k, c, e, z⟩
    · exact .inl l
    · exact .inr ⟨k, c, e, cellK x c e _ z⟩
  · obtain ⟨v, z⟩ := I.cell x c e
    exact ⟨v, cellK x c e v z⟩
  · obtain ⟨m, ⟨o, _, _, ho, _⟩, _⟩ := I.loc
    exact free _ o (fun z => (hch _ z).2.1 rfl) ho I.free
  · obtain ⟨v, o, ho, hd⟩ := I.cell x c e
    exact free c o (fun z => (hch c z).2.2.1 x c e rfl) ho (I.freeC x c e)
  · obtain ⟨e, n, ne, nf, d⟩ := I.pin p hp
    have nch : p.1 ∉ ch := fun z => (hch p.1 z).2.2.2 p hp rfl
    exact ⟨keep p.1 p.2 ne nf nch e n, free p.1 p.2 nch e n, ne, nf, d⟩
theorem Inv.un {t' : Nat} (I : Inv X pins σ H s) (u : Un X.fs [] H H' s.heap h') (hok : HOk X.prog X.w H' h') : Inv X pins σ H' { s with heap := h', toks := t' } := by
  obtain ⟨m, ⟨o, es, ep, ho, r⟩, _⟩ := id I.loc
  obtain ⟨sl, hL⟩ := u.any ho I.free (by simp)
  exact I.step (g' := s.gens) (d' := s.drawn) (ch := []) (fun _ z => nomatch z) (fun b o _ hb _ e n => u.keep b o e n hb (by simp)) (fun b o _ hb _ e n => u.slot b o e n hb (by simp)) (fun b o _ e n => u.free b o e n (by simp)) (fun b o _ e => u.there b o e (by simp)) u.tups u.frzs u.tbls (fun m' hm => by
    obtain ⟨o', es', ep', ho', r'⟩ := hm
    rw [ho] at ho'; cases ho'
    exact ⟨_, es', ep', hL, r'⟩) hok I.bare
theorem Inv.call {g' : Array GenState} {t' : Nat} {d' : Drawn} {ch : List Addr} (I : Inv X pins σ H s) (u : Un (frs X.stack) ch H H' s.heap h') (hok : HOk X.prog X.w H' h') (hg : AllBare g')
    (hch : ∀ b ∈ ch, (b ∈ X.ex ∨ X.s₀.heap.objs.size ≤ b) ∧ b ≠ X.env.locals ∧ (∀ x c, X.env.cells.lookup x = some c → c ≠ b) ∧ ∀ p ∈ X.pn ++ pins, p.1 ≠ b) :
    Inv X pins σ H' { s with heap := h', gens := g', drawn := d', toks := t' } := by
  obtain ⟨m, ⟨o, es, ep, ho, r⟩, _⟩ := id I.loc
  obtain ⟨sl, hL⟩ := u.any ho I.free fun z => (hch _ z).2.1 rfl
  exact I.step (ch := ch) hch (fun b o hL hb hc e n => u.keep b o e n (fun z => (List.mem_cons.mp (I.stkSub b z)).elim hL hb) hc) (fun b o _ _ hc e n => u.any e n hc) (fun b o hc e n => u.free b o e n hc) (fun b o hc e => u.there b o e hc) u.tups u.frzs u.tbls (fun m' hm => by
    obtain ⟨o', es', ep', ho', r'⟩ := hm
    rw [ho] at ho'; cases ho'
    exact ⟨_, es', ep', hL, r'⟩) hok hg
theorem Inv.turned {t' : Nat} {it : Addr} (I : Inv X pins σ H s) (k : ∀ b o, b ≠ it → s.heap.get? b = some o → h'.get? b = some o) (hn : H it = none) (hL : it ≠ X.env.locals)
    (h1 : it ∈ X.ex ∨ X.s₀.heap.objs.size ≤ it) (h2 : ∀ x c, X.env.cells.lookup x = some c → c ≠ it) (h3 : ∀ p ∈ X.pn ++ pins, p.1 ≠ it) : Inv X pins σ H { s with heap := h', toks := t' } := by
  have nit : ∀ b u, H b = some u → b ≠ it := fun b u e z => by rw [z, hn] at e; cases e
  refine I.step (g' := s.gens) (d' := s.drawn) (ch := [it]) (fun b hb => ?_) (fun b o _ _ hc e _ => k b o (fun z => hc (by simp [z])) e) (fun b o _ _ hc e _ => ⟨o.slots, k b o (fun z => hc (by simp [z])) e⟩) (fun _ _ _ _ n => n)
    (fun b o hc e => ⟨o, k b o (fun z => hc (by simp [z])) e⟩) (fun _ _ e => e) (fun _ _ _ e => e) (fun b ps e => ⟨#[], by rw [e]; simp⟩) (fun m hm => ?_) (fun b u e => ?_) I.bare
  · have e : b = it := by simpa using hb
    subst e
    exact ⟨h1, hL, h2, h3⟩
  · obtain ⟨o, es, ep, ho, r⟩ := hm
    exact ⟨o, es, ep, k _ o (Ne.symm hL) ho, r⟩
  · refine (I.hok b u e).stay (fun c v hc q => k c v ?_ q) (fun _ q => q) fun _ _ q => q
    rcases hc with z | z
    · rw [z]; exact nit b u e
    · exact nit c _ z
theorem Inv.tok (I : Inv X pins σ H s) (t : Nat) : Inv X pins σ H { s with toks := t } := I.un (h' := s.heap) (t' := t) Un.refl I.hok
theorem Inv.kept {t' : Nat} (I : Inv X pins σ H s) (k : ∀ b u, s.heap.get? b = some u → h'.get? b = some u) : Inv X pins σ H { s with heap := h', toks := t' } := I.un (Un.kept k) (I.hok.kept k)
theorem Inv.laid {a : Addr} {o : HO} {t' : Nat} (I : Inv X pins σ H s) (k : ∀ b u, s.heap.get? b = some u → h'.get? b = some u) (hp : s.heap.objs.size ≤ a) (new : ObjOk X.prog X.w (upd H a o) h' a o) :
    Inv X pins σ (upd H a o) { s with heap := h', toks := t' } := I.un (Un.laid k hp (I.hok.fresh hp)) (I.hok.laid k hp new)
theorem Inv.write {x e : Addr} {o : HO} {t' : Nat} (I : Inv X pins σ H s) (mu : Mut (H x)) (he : e = x ∨ H e = some (.own x)) (k : ∀ b u, b ≠ e → s.heap.get? b = some u → h'.get? b = some u) (heo : ∃ u, h'.get? e = some u)
    (new : ObjOk X.prog X.w (upd H x o) h' x o) : Inv X pins σ (upd H x o) { s with heap := h', toks := t' } := I.un (Un.write mu he k heo) (I.hok.write mu he k heo new)
theorem Inv.pins_of {pins' : List (Addr × Obj)} (I : Inv X pins σ H s) (h : ∀ p ∈ pins', s.heap.get? p.1 = some p.2 ∧ H p.1 = none ∧ p.1 ≠ X.env.locals ∧ p.1 ∉ X.fs ∧ ∀ v, p.2.data ≠ .cell v) : Inv X pins' σ H s :=
  ⟨I.ok, I.os, I.bare, I.base, I.loc, I.cell, I.free, I.freeC, fun p hp => (List.mem_append.mp hp).elim (fun z => I.pin p (List.mem_append_left _ z)) (h p), I.hok, I.len⟩

theorem nodup_ix {N : List Str} (hN : N.Nodup) {i j : Nat} {x : Str} (a : N[i]? = some x) (b : N[j]? = some x) : i = j := by
  obtain ⟨h1, e1⟩ := List.getElem?_eq_some_iff.mp a
  obtain ⟨h2, e2⟩ := List.getElem?_eq_some_iff.mp b
  exact (List.getElem_inj hN).mp (e1.trans e2.symm)

theorem store_ok2 {M : Model} {A : Around} {E : Value → Shared → Prop} {i : Nat} {x : Str} {v : V} {u : Value} {Q : Unit → Shared → Prop} (I : Inv X pins σ H s) (hN : X.N.Nodup) (hi : X.N[i]? = some x) (hx : Loc X.env.scope x) (r : RelV v u)
    (h : ∀ s', Inv X pins (σ.set i (some v)) H s' → (∃ a, Heap.SameBut a s.heap s'.heap ∧ (a = X.env.locals ∨ X.env.cells.lookup x = some a)) → Q () s') (hf : X.fn x = true ∨ X.env.scope.names.lookup x = some .local := by first | exact .inl rfl | exact .inr rfl | assumption) : wpAny M A (storeName X.env x u) Q E s := by
  obtain ⟨m, hn, hl⟩ := id I.loc
  have hcls : (X.env.scope.kind == .class || (X.env.scope.kind == .module && X.env.locals != X.env.globals)) = false := by rw [I.ok.kind]; rfl
  have hiσ : i < σ.length := by rw [I.len]; exact (List.getElem?_eq_some_iff.mp hi).1
  have cne := I.cne
  have tracked : ∀ {a : Addr} {h' : Heap}, (∃ o, s.heap.get? a = some o ∧ H a = none) → Heap.SameBut a s.heap h' → HOk X.prog X.w H h' := fun {a h'} ha hs b ob e => by
    obtain ⟨_, _, hfree⟩ := ha
    refine (I.hok b ob e).stay (fun c w' hc q => (hs.2 c ?_).trans q) (fun _ q => q) fun _ _ q => q
    rintro rfl
    rcases hc with rfl | hc
    · rw [hfree] at e; cases e
    · rw [hfree] at hc; cases hc
  rcases hx with hk | hk
  · refine wpAny_storeName_local hk hn (fun h' hn' hs => ?_) hcls
    obtain ⟨oL, _, _, hoL, _⟩ := id hn
    refine h _ ⟨I.ok, I.os, I.bare, ⟨fun b o e n hb hx => ?_, fun b o e n hb hx => ?_, I.base.free, fun b o e hx => ?_, I.base.tups, I.base.frzs, I.base.tbls⟩, ⟨_, hn', fun j y v' e1 e2 e3 => ?_⟩, fun y c e => ?_, I.free, I.freeC, fun p hp => ?_, tracked ⟨oL, hoL, I.free⟩ hs, by simpa using I.len⟩ ⟨_, hs, .inl rfl⟩
    · exact (hs.2 b (Nat.ne_of_lt (Nat.lt_of_lt_of_le (Heap.lt_size e) I.ok.above))).trans (I.base.keep b o e n hb hx)
    · obtain ⟨sl, e1⟩ := I.base.slot b o e n hb hx
      exact ⟨sl, (hs.2 b (Nat.ne_of_lt (Nat.lt_of_lt_of_le (Heap.lt_size e) I.ok.above))).trans e1⟩
    · obtain ⟨o', e1⟩ := I.base.there b o e hx
      exact ⟨o', (hs.2 b (Nat.ne_of_lt (Nat.lt_of_lt_of_le (Heap.lt_size e) I.ok.above))).trans e1⟩
    · by_cases hj : j = i
      · subst hj
        rw [hi] at e1; cases e1
        rw [List.getElem?_set_self hiσ] at e2
        cases e2
        exact ⟨u, r, .inl ⟨hk, by simp⟩⟩
      · rw [List.getElem?_set_ne (Ne.symm hj)] at e2
        obtain ⟨u', r', q⟩ := hl j y v' e1 e2 e3
        refine ⟨u', r', ?_⟩
        rcases q with ⟨k, e⟩ | ⟨k, c, e, z⟩
        · refine .inl ⟨k, ?_⟩
          have : y ≠ x := fun e => hj (nodup_ix hN e1 (e ▸ hi))
          simp [this, e]
        · exact .inr ⟨k, c, e, z.sameBut hs (cne y c e)⟩
    · obtain ⟨w', z⟩ := I.cell y c e
      exact ⟨w', z.sameBut hs (cne y c e)⟩
    · obtain ⟨e, n, ne, nf, d⟩ := I.pin p hp
      exact ⟨(hs.2 p.1 ne).trans e, n, ne, nf, d⟩
  · have hfn : X.fn x = true := by
      rcases hf with z | z
      · exact z
      · rw [z] at hk; cases hk
    obtain ⟨c, hc⟩ := I.ok.has x (.inl hk)
    obtain ⟨w', z⟩ := I.cell x c hc
    refine wpAny_storeName_cell I.ok.kind hk hc z (fun h' hc' hs => ?_)
    obtain ⟨oc, hoc, hocd⟩ := id z
    refine h { s with heap := h' } ⟨I.ok, I.os, I.bare, ⟨fun b o e n hb hx => ?_, fun b o e n hb hx => ?_, I.base.free, fun b o e hx => ?_, I.base.tups, I.base.frzs, I.base.tbls⟩, ⟨m, hn.sameBut hs (Ne.symm (cne x c hc)), fun j y v' e1 e2 e3 => ?_⟩, fun y c' e => ?_, I.free, I.freeC, fun p hp => ?_, tracked ⟨oc, hoc, I.freeC x c hc⟩ hs, by simpa using I.len⟩ ⟨c, hs, .inr hc⟩
    · exact (hs.2 b (Nat.ne_of_lt (Nat.lt_of_lt_of_le (Heap.lt_size e) (I.ok.cab x c hfn hc)))).trans (I.base.keep b o e n hb hx)
    · obtain ⟨sl, e1⟩ := I.base.slot b o e n hb hx
      exact ⟨sl, (hs.2 b (Nat.ne_of_lt (Nat.lt_of_lt_of_le (Heap.lt_size e) (I.ok.cab x c hfn hc)))).trans e1⟩
    · obtain ⟨o', e1⟩ := I.base.there b o e hx
      exact ⟨o', (hs.2 b (Nat.ne_of_lt (Nat.lt_of_lt_of_le (Heap.lt_size e) (I.ok.cab x c hfn hc)))).trans e1⟩
    · by_cases hj : j = i
      · subst hj
        rw [hi] at e1; cases e1
        rw [List.getElem?_set_self hiσ] at e2
        cases e2
        exact ⟨u, r, .inr ⟨.inl hk, c, hc, hc'⟩⟩
      · rw [List.getElem?_set_ne (Ne.symm hj)] at e2
        obtain ⟨u', r', q⟩ := hl j y v' e1 e2 e3
        refine ⟨u', r', ?_⟩
        rcases q with q | ⟨k, c', e, z'⟩
        · exact .inl q
        · refine .inr ⟨k, c', e, z'.sameBut hs ?_⟩
          rintro rfl
          exact hj (nodup_ix hN e1 (I.ok.inj _ _ _ e hc ▸ hi))
    · by_cases hcc : c' = c
      · subst hcc; exact ⟨_, hc'⟩
      · obtain ⟨w2, z2⟩ := I.cell y c' e
        exact ⟨w2, z2.sameBut hs hcc⟩
    · obtain ⟨e, n, ne, nf, d⟩ := I.pin p hp
      refine ⟨(hs.2 p.1 ?_).trans e, n, ne, nf, d⟩
      intro q
      rw [q, hoc] at e
      have q' : oc = p.2 := Option.some.inj e
      exact d w' (by rw [← q']; exact hocd)
theorem store_ok {M : Model} {A : Around} {E : Value → Shared → Prop} {i : Nat} {x : Str} {v : V} {u : Value} {Q : Unit → Shared → Prop} (I : Inv X pins σ H s) (hN : X.N.Nodup) (hi : X.N[i]? = some x) (hx : Loc X.env.scope x) (r : RelV v u)
    (h : ∀ s', Inv X pins (σ.set i (some v)) H s' → Q () s') (hf : X.fn x = true ∨ X.env.scope.names.lookup x = some .local := by first | exact .inl rfl | exact .inr rfl | assumption) : wpAny M A (storeName X.env x u) Q E s :=
  store_ok2 I hN hi hx r (fun s' I' _ => h s' I') hf
theorem Inv.call' {s' : Shared} {ch : List Addr} (I : Inv X pins σ H s) (ho : s'.os = s.os) (u : Un (frs X.stack) ch H H' s.heap s'.heap) (hok : HOk X.prog X.w H' s'.heap) (hg : AllBare s'.gens)
    (hch : ∀ b ∈ ch, (b ∈ X.ex ∨ X.s₀.heap.objs.size ≤ b) ∧ b ≠ X.env.locals ∧ (∀ x c, X.env.cells.lookup x = some c → c ≠ b) ∧ ∀ p ∈ X.pn ++ pins, p.1 ≠ b) : Inv X pins σ H' s' := by
  obtain ⟨h', g', d', t', o'⟩ := s'
  have e : o' = s.os := ho
  subst e
  exact I.call (g' := g') (t' := t') (d' := d') u hok hg hch
end

noncomputable abbrev XK := Value → Option Addr → Hp → Prop
noncomputable abbrev St := List (Option V)
noncomputable abbrev VK := V → Hp → Prop
noncomputable abbrev TE := St → Hp → VK → Prop
noncomputable abbrev TT := St → Hp → (Bool → Hp → Prop) → Prop
noncomputable abbrev TA := St → Hp → (List V → Hp → Prop) → Prop
structure Ends where
  nx : St → Hp → Prop
  rt : VK
  bk : St → Hp → Prop := fun _ _ => False
  ct : St → Hp → Prop := fun _ _ => False
noncomputable abbrev TS := Ends → St → Hp → Prop

inductive EP (X : Cx) (pins : List (Addr × Obj)) (σ : St) (Q : VK) (u : Value) (s' : Shared) : Prop
  | mk (v : _) (H' : _) (h0_ : Inv X pins σ H' s') (h1_ : RelV v u) (h2_ : Q v H')
inductive TP (X : Cx) (pins : List (Addr × Obj)) (σ : St) (Q : Bool → Hp → Prop) (b : Bool) (s' : Shared) : Prop
  | mk (H' : _) (h0_ : Inv X pins σ H' s') (h1_ : Q b H')
inductive AP (X : Cx) (pins : List (Addr × Obj)) (σ : St) (Q : List V → Hp → Prop) (us : List Value) (s' : Shared) : Prop
  | mk (vs : _) (H' : _) (h0_ : Inv X pins σ H' s') (h1_ : Vals vs us) (h2_ : Q vs H')
noncomputable def SP (X : Cx) (pins : List (Addr × Obj)) (D : Ends) (f : Flow) (s' : Shared) : Prop :=
  match f with
  | .next => ∃ σ' H', Inv X pins σ' H' s' ∧ D.nx σ' H'
  | .brk => ∃ σ' H', Inv X pins σ' H' s' ∧ D.bk σ' H'
  | .cont => ∃ σ' H', Inv X pins σ' H' s' ∧ D.ct σ' H'
  | .ret u => ∃ v σ' H', Inv X pins σ' H' s' ∧ RelV v u ∧ D.rt v H'

noncomputable def PE (X : Cx) (e : Expr) (t : TE) : Prop :=
  ∀ (pins : List (Addr × Obj)) (s : Shared) (σ : St) (H : Hp) (Q : VK), Inv X pins σ H s → t σ H Q → wpAny (model X.prog X.w) X.A (eval e X.env) (EP X pins σ Q) X.xe s
noncomputable def PT (X : Cx) (e : Expr) (t : TT) : Prop :=
  ∀ (pins : List (Addr × Obj)) (s : Shared) (σ : St) (H : Hp) (Q : Bool → Hp → Prop), Inv X pins σ H s → t σ H Q → wpAny (model X.prog X.w) X.A (isTrue e X.env (eval e X.env)) (TP X pins σ Q) X.xe s
noncomputable def PW (X : Cx) (e : Expr) (t : TT) : Prop :=
  ∀ (whole : Sem Value) (pins : List (Addr × Obj)) (s : Shared) (σ : St) (H : Hp) (Q : Bool → Hp → Prop), Inv X pins σ H s → t σ H Q → wpAny (model X.prog X.w) X.A (isTrue e X.env whole) (TP X pins σ Q) X.xe s
theorem PW.pt {X : Cx} {e : Expr} {t : TT} (h : PW X e t) : PT X e t := h _
noncomputable def PA (X : Cx) (es : List Expr) (t : TA) : Prop :=
  ∀ (pos : Pos) (pins : List (Addr × Obj)) (s : Shared) (σ : St) (H : Hp) (Q : List V → Hp → Prop), Inv X pins σ H s → t σ H Q → wpAny (model X.prog X.w) X.A (spliced (backTo pos (starEach es X.env))) (AP X pins σ Q) X.xe s
noncomputable def PS (X : Cx) (st : Stmt) (t : TS) : Prop :=
  ∀ (pins : List (Addr × Obj)) (s : Shared) (σ : St) (H : Hp) (D : Ends), Inv X pins σ H s → t D σ H → wpAny (model X.prog X.w) X.A (exec st X.env) (SP X pins D) X.xe s
noncomputable def PSs (X : Cx) (st : List Stmt) (t : TS) : Prop :=
  ∀ (pins : List (Addr × Obj)) (s : Shared) (σ : St) (H : Hp) (D : Ends), Inv X pins σ H s → t D σ H → wpAny (model X.prog X.w) X.A (execs st X.env) (SP X pins D) X.xe s
theorem thn {α : Type} {t : Sem α} {Q Q' : α → Shared → Prop} {M : Model} {A : Around} {E : Value → Shared → Prop} {s : Shared} (h : wpAny M A t Q E s) (hQ : ∀ a s, Q a s → Q' a s) : wpAny M A t Q' E s := wpAny_mono h hQ fun _ _ x => x
end L2

namespace L2
open PySem PySem.Spec PyProof.Rows
section
variable {X : Cx}


inductive tVar (i : Nat) (σ : St) (H : Hp) (Q : VK) : Prop
  | mk (v : _) (h0_ : σ[i]? = some (some v)) (h1_ : Q v H)
noncomputable def tC (v : V) : TE := fun _ H Q => Q v H
theorem pe_var {i : Nat} {x : Str} {pos : Pos} (hN : X.N[i]? = some x) (hv : Vis X.env.scope x) (hd : (x == ("__debug__" : Str)) = false := by decide) (hcd : (x == ("__classdict__" : Str)) = false := by decide) : PE X (.Name x pos) (tVar i) := by
  intro pins s σ H Q I h
  obtain ⟨v, e, h⟩ := h
  obtain ⟨m, hn, hl⟩ := I.loc
  obtain ⟨u, r, l⟩ := hl i x v hN e hv
  have fin : EP X pins σ Q u s := ⟨v, H, I, r, h⟩
  rcases l with ⟨hk, hm⟩ | ⟨hk, c, hc, hcell⟩
  · exact wpAny_Name (wpAny_loadName_local I.ok.kind hk hn hm fin) hd
  · rcases hk with hk | hk
    · exact wpAny_Name (wpAny_loadName_cell I.ok.kind hk hc hcell fin) hd
    · exact wpAny_Name (wpAny_loadName_free I.ok.kind hk hc hcell fin hcd) hd
theorem pe_int {i j pos} : PE X (.Constant (.int i) j pos) (tC (.int i)) := fun _ _ _ H _ I h => wpAny_Constant_int ⟨.int i, H, I.tok _, ⟨_, rfl⟩, h⟩
theorem pe_bl {b j pos} : PE X (.Constant (.bool b) j pos) (tC (.bl b)) := fun _ _ _ H _ I h => Constant_bool ⟨.bl b, H, I, rfl, h⟩
theorem pe_non {j pos} : PE X (.Constant .none j pos) (tC .non) := fun _ _ _ H _ I h => Constant_none ⟨.non, H, I, rfl, h⟩
theorem pe_str {x j pos} : PE X (.Constant (.str x) j pos) (tC (.str x)) := fun _ _ _ H _ I h => Calls.Constant_str ⟨.str x, H, I.tok _, ⟨_, rfl⟩, h⟩

noncomputable def Gl (X : Cx) (x : Str) : Prop := X.env.kindOf x = some .globalImplicit
theorem ld_glob {E : Value → Shared → Prop} {pins : List (Addr × Obj)} {s : Shared} {σ : St} {H : Hp} {x : Str} {u : Value} {pos : Pos} {Q : Value → Shared → Prop} (I : Inv X pins σ H s) (hg : Gl X x) (hm : X.mg x = some u) (h : Q u s)
    (hd : (x == ("__debug__" : Str)) = false := by decide) : wpAny (model X.prog X.w) X.A (eval (.Name x pos) X.env) Q E s :=
  Calls.Name_function_global I.ok.kind hg (Calls.loadGlobal_global (by rw [I.ok.glob]; exact I.mod.glob.keeps I.bk) hm h) hd
theorem ld_blt {E : Value → Shared → Prop} {pins : List (Addr × Obj)} {s : Shared} {σ : St} {H : Hp} {x : Str} {u : Value} {pos : Pos} {Q : Value → Shared → Prop} (I : Inv X pins σ H s) (hg : Gl X x) (hm : X.mg x = none) (hv : bootBuiltins x = some u) (h : Q u s)
    (hn : x ≠ "__name__" := by decide) (hd : (x == ("__debug__" : Str)) = false := by decide) : wpAny (model X.prog X.w) X.A (eval (.Name x pos) X.env) Q E s := by
  obtain ⟨mb, h1, h2⟩ := I.mod.blt
  exact Calls.Name_function_global I.ok.kind hg (Calls.loadGlobal_builtin (by rw [I.ok.glob]; exact I.mod.glob.keeps I.bk) hm (by rw [I.ok.blt]; exact h1.keeps I.bk) ((h2 x hn).trans hv) h) hd
theorem pe_glob {x : Str} {v : V} {u : Value} {pos : Pos} (hg : Gl X x) (hm : X.mg x = some u) (r : RelV v u) (hd : (x == ("__debug__" : Str)) = false := by decide) : PE X (.Name x pos) (tC v) :=
  fun _ _ _ H _ I h => ld_glob I hg hm ⟨v, H, I, r, h⟩ hd
theorem pe_bltn {x : Str} {v : V} {u : Value} {pos : Pos} (hg : Gl X x) (hm : X.mg x = none) (hv : bootBuiltins x = some u) (r : RelV v u) (hn : x ≠ "__name__" := by decide) (hd : (x == ("__debug__" : Str)) = false := by decide) : PE X (.Name x pos) (tC v) :=
  fun _ _ _ H _ I h => ld_blt I hg hm hv ⟨v, H, I, r, h⟩ hn hd

variable {a b : Expr} {ta tb : TE} {pos : Pos}

noncomputable def PC (X : Cx) (op : CmpOp) (a b : Expr) (t : TE) : Prop :=
  ∀ (pins : List (Addr × Obj)) (s : Shared) (σ : St) (H : Hp) (Q : VK), Inv X pins σ H s → t σ H Q →
    wpAny (model X.prog X.w) X.A (eval a X.env) (fun v s₁ => wpAny (model X.prog X.w) X.A (eval b X.env) (fun u s₂ => wpAny (model X.prog X.w) X.A (compareOp op v u) (EP X pins σ Q) X.xe s₂) X.xe s₁) X.xe s
noncomputable def tB (t : TE) : TT := fun σ H Q => t σ H fun x H1 => ∃ c, x = .bl c ∧ Q c H1
theorem pe_cmp {op : CmpOp} {t : TE} (h : PC X op a b t) (h1 : behindInMarks op b = false := by first | exact nobehind _ (by decide) (by decide) | rfl) : PE X (.Compare a [op] [b] pos) t := fun pins s σ H Q I hw => wpAny_Compare1 (h pins s σ H Q I hw) h1
theorem pt_cmp {op : CmpOp} {t : TE} (h : PC X op a b t) (h1 : behindInMarks op b = false := by first | exact nobehind _ (by decide) (by decide) | rfl) : PT X (.Compare a [op] [b] pos) (tB t) := by
  intro pins s σ H Q I hw
  refine wpAny_isTrue_Compare1 (thn (h pins s σ H _ I hw) fun v s1 h1 => thn h1 fun u s2 h2 => thn h2 fun c s3 ⟨x, H1, I1, r1, q1⟩ => ?_) h1
  obtain ⟨d, rfl, q⟩ := q1
  cases r1
  exact wpAny_truthy_bool ⟨H1, I1, q⟩
theorem pt_val {e : Expr} {t : TE} (h : PE X e t) (he : ∀ whole, isTrue e X.env whole = (do let v ← whole; standAt e.pos; holding [v] (truthy v)) := by intro _; rfl) : PT X e (tB t) := by
  intro pins s σ H Q I hw
  refine isTrue_plain (thn (h pins s σ H _ I hw) fun v s1 ⟨x, H1, I1, r1, q1⟩ => ?_) (he _)
  obtain ⟨d, rfl, q⟩ := q1
  cases r1
  exact wpAny_truthy_bool ⟨H1, I1, q⟩

variable {tA tB' : TT} {rest : List Expr}
noncomputable def tAnd (t u : TT) : TT := fun σ H Q => t σ H fun c H1 => if c = true then u σ H1 Q else Q false H1
noncomputable def tOr (t u : TT) : TT := fun σ H Q => t σ H fun c H1 => if c = true then Q true H1 else u σ H1 Q
noncomputable def tNot (t : TT) : TT := fun σ H Q => t σ H fun c H1 => Q (!c) H1
theorem pw_and1 (ha : PT X a tA) : PW X (.BoolOp .And [a] pos) tA := by
  intro wh pins s σ H Q I h
  refine isTrue_and (thn (ha pins s σ H Q I h) fun c s1 e => ?_)
  cases c with
  | true => exact isTrue_and_nil e
  | false => exact e
theorem pw_or1 (ha : PT X a tA) : PW X (.BoolOp .Or [a] pos) tA := by
  intro wh pins s σ H Q I h
  refine isTrue_or (thn (ha pins s σ H Q I h) fun c s1 e => ?_)
  cases c with
  | false => exact isTrue_or_nil e
  | true => exact e
theorem pw_and (ha : PT X a tA) (hb : PW X (.BoolOp .And (b :: rest) pos) tB') : PW X (.BoolOp .And (a :: b :: rest) pos) (tAnd tA tB') := by
  intro wh pins s σ H Q I h
  refine isTrue_and (thn (ha pins s σ H _ I h) fun c s1 ⟨H1, I1, q1⟩ => ?_)
  cases c with
  | true => exact hb wh pins s1 σ H1 Q I1 q1
  | false => exact ⟨H1, I1, q1⟩
theorem pw_or (ha : PT X a tA) (hb : PW X (.BoolOp .Or (b :: rest) pos) tB') : PW X (.BoolOp .Or (a :: b :: rest) pos) (tOr tA tB') := by
  intro wh pins s σ H Q I h
  refine isTrue_or (thn (ha pins s σ H _ I h) fun c s1 ⟨H1, I1, q1⟩ => ?_)
  cases c with
  | true => exact ⟨H1, I1, q1⟩
  | false => exact hb wh pins s1 σ H1 Q I1 q1
theorem pt_not (ha : PT X a tA) : PT X (.UnaryOp .Not a pos) (tNot tA) := by
  intro pins s σ H Q I h
  exact isTrue_not (thn (ha pins s σ H (fun c H1 => Q (!c) H1) I h) fun c s1 ⟨H', I', q⟩ => ⟨H', I', q⟩)
inductive IsBl (x : V) (H : Hp) (Q : Bool → Hp → Prop) : Prop
  | mk (k : Bool) (h : x = .bl k) (q : Q k H)
noncomputable def tAndV (ta tb : TE) : TE := fun σ H Q => ta σ H fun x H1 => IsBl x H1 fun c H1 => if c = true then tb σ H1 Q else Q (.bl false) H1
noncomputable def tOrV (ta tb : TE) : TE := fun σ H Q => ta σ H fun x H1 => ∃ c, x = .bl c ∧ if c = true then Q (.bl true) H1 else tb σ H1 Q
noncomputable def tNotV (ta : TE) : TE := fun σ H Q => ta σ H fun x H1 => ∃ c, x = .bl c ∧ Q (.bl (!c)) H1
theorem pe_one {op} {t : TE} (h : PE X a t) : PE X (.BoolOp op [a] pos) t := fun pins s σ H Q I hw => BoolOp_one (h pins s σ H Q I hw)
theorem pe_and (ha : PE X a ta) (hb : PE X (.BoolOp .And (b :: rest) pos) tb) : PE X (.BoolOp .And (a :: b :: rest) pos) (tAndV ta tb) := by
  intro pins s σ H Q I h
  refine BoolOp_and (thn (ha pins s σ H _ I h) fun v s1 ⟨x, H1, I1, r1, q1⟩ => ?_)
  obtain ⟨c, rfl, q1⟩ := q1
  cases r1
  refine wpAny_truthy_bool ?_
  cases c with
  | true => exact hb pins s1 σ H1 Q I1 q1
  | false => exact ⟨.bl false, H1, I1, rfl, q1⟩
theorem pe_or (ha : PE X a ta) (hb : PE X (.BoolOp .Or (b :: rest) pos) tb) : PE X (.BoolOp .Or (a :: b :: rest) pos) (tOrV ta tb) := by
  intro pins s σ H Q I h
  refine BoolOp_or (thn (ha pins s σ H _ I h) fun v s1 ⟨x, H1, I1, r1, q1⟩ => ?_)
  obtain ⟨c, rfl, q1⟩ := q1
  cases r1
  refine wpAny_truthy_bool ?_
  cases c with
  | false => exact hb pins s1 σ H1 Q I1 q1
  | true => exact ⟨.bl true, H1, I1, rfl, q1⟩
theorem pe_not (ha : PE X a ta) : PE X (.UnaryOp .Not a pos) (tNotV ta) := by
  intro pins s σ H Q I h
  refine UnaryOp_ (thn (ha pins s σ H _ I h) fun v s1 ⟨x, H1, I1, r1, q1⟩ => ?_)
  obtain ⟨c, rfl, q1⟩ := q1
  cases r1
  exact not_of (wpAny_truthy_bool ⟨.bl (!c), H1, I1, rfl, q1⟩)
noncomputable def tIf (t : TT) (ta tb : TE) : TE := fun σ H Q => t σ H fun c H1 => if c = true then ta σ H1 Q else tb σ H1 Q
theorem pe_ifExp {c : Expr} (hc : PT X c tA) (ha : PE X a ta) (hb : PE X b tb) : PE X (.IfExp c a b pos) (tIf tA ta tb) := by
  intro pins s σ H Q I h
  refine wpAny_IfExp (thn (hc pins s σ H _ I h) fun d s1 ⟨H1, I1, q1⟩ => ?_)
  cases d with
  | true => exact ha pins s1 σ H1 Q I1 q1
  | false => exact hb pins s1 σ H1 Q I1 q1
end
end L2

namespace L2
open PySem PySem.Spec PyProof.Rows

noncomputable def SqL (K : PySem.W.Frag) (H : Hp) (a : Addr) (xs : List V) : Prop :=
  Rd H a (.lst xs) ∨
    ∃ (o : Obj) (its : Array Value) (n : Nat), K.lookup a = some o ∧ o.cls = .type "list" ∧ o.dict = none ∧ o.data = .seq its n ∧ its.size ≤ sizeLine ∧ Vals xs its.toList
noncomputable def SqT (K : PySem.W.Frag) (H : Hp) (a : Addr) (xs : List V) : Prop :=
  Rd H a (.tup xs) ∨
    ∃ (o : Obj) (its : Array Value) (n : Nat), K.lookup a = some o ∧ o.cls = .type "tuple" ∧ o.data = .seq its n ∧ its.size ≤ sizeLine ∧ Vals xs its.toList
noncomputable def absV : Value → Option V
  | .none => some .non
  | .bool b => some (.bl b)
  | .int i _ => some (.int i)
  | .str x _ => some (.str x)
  | .bytes b _ => some (.byt b)
  | .float b _ => some (.flt b)
  | .ref a => some (.ref a)
  | .type n => some (.ty n)
  | _ => none
theorem RelV.abs {x : V} {u : Value} (r : RelV x u) : absV u = some x := by
  cases x with
  | non => cases r; rfl
  | bl _ => cases r; rfl
  | int _ => obtain ⟨t, rfl⟩ := r; rfl
  | str _ => obtain ⟨t, rfl⟩ := r; rfl
  | byt _ => obtain ⟨t, rfl⟩ := r; rfl
  | flt _ => obtain ⟨t, rfl⟩ := r; rfl
  | ref _ => cases r; rfl
  | ty _ => cases r; rfl
theorem RelV.inj {x y : V} {u : Value} (r : RelV x u) (q : RelV y u) : x = y := Option.some.inj (r.abs.symm.trans q.abs)
theorem Vals.inj : ∀ {xs ys : List V} {us : List Value}, Vals xs us → Vals ys us → xs = ys
  | _, _, _, .nil, .nil => rfl
  | _, _, _, .cons r t, .cons r' t' => by rw [r.inj r', Vals.inj t t']
section
variable {X : Cx} {pins : List (Addr × Obj)} {σ : St} {H : Hp} {s : Shared} {a : Addr} {xs ys : List V}
theorem SqL.of {K : PySem.W.Frag} (h : H a = some (.lst xs)) : SqL K H a xs := .inl (.inl h)
theorem SqT.of {K : PySem.W.Frag} (h : H a = some (.tup xs)) : SqT K H a xs := .inl (.inl h)
theorem Inv.list (I : Inv X pins σ H s) (h : SqL X.K H a xs) : ∃ its : List Value, Vals xs its ∧ PlainL s.heap a its.toArray ∧ xs.length ≤ sizeLine := by
  rcases h with h | ⟨o, its, n, hk, hc, hd, hs, hz, r⟩
  · obtain ⟨z, its, n, r, e⟩ := h.ok I.hok
    exact ⟨its, r, ⟨_, n, e, rfl, rfl, rfl⟩, z⟩
  · refine ⟨its.toList, r, ⟨o, n, I.kIn a o hk, hc, hd, by simpa using hs⟩, ?_⟩
    have e := r.length
    simp only [Array.length_toList] at e
    omega
theorem Inv.tuple (I : Inv X pins σ H s) (h : SqT X.K H a xs) : ∃ its : List Value, Vals xs its ∧ IsTup s.heap a its.toArray ∧ xs.length ≤ sizeLine := by
  rcases h with h | ⟨o, its, n, hk, hc, hs, hz, r⟩
  · obtain ⟨z, its, r, p⟩ := h.ok I.hok
    exact ⟨its, r, p, z⟩
  · refine ⟨its.toList, r, ⟨o, I.kIn a o hk, hc, n, by simpa using hs⟩, ?_⟩
    have e := r.length
    simp only [Array.length_toList] at e
    omega
theorem Inv.list_inj (I : Inv X pins σ H s) (h : SqL X.K H a xs) (h' : SqL X.K H a ys) : xs = ys := by
  obtain ⟨its, r, ⟨o, n, e, _, _, d⟩, _⟩ := I.list h
  obtain ⟨its', r', ⟨o', n', e', _, _, d'⟩, _⟩ := I.list h'
  rw [e] at e'; cases e'
  rw [d] at d'
  injection d' with d1 _
  have : its = its' := by simpa using congrArg Array.toList d1
  subst this
  exact r.inj r'
end

noncomputable abbrev Cx.wish (X : Cx) (E : Value → Shared → Prop) : Cx := { X with xe := E }
noncomputable abbrev Cx.nox (X : Cx) : Cx := X.wish fun _ _ => False
theorem Cx.Ok.wish {X : Cx} (ok : X.Ok) (E : Value → Shared → Prop) : (X.wish E).Ok :=
  ⟨ok.mod, ok.kind, ok.glob, ok.blt, ok.above, ok.inj, ok.has, ok.cab, ok.hd, ok.frames, ok.stk, ok.exf, ok.bs, ok.bsz, ok.noex, ok.exfs, ok.funs, ok.frf⟩
theorem Cx.Ok.unwish {X : Cx} {E : Value → Shared → Prop} (ok : (X.wish E).Ok) : X.Ok :=
  ⟨ok.mod, ok.kind, ok.glob, ok.blt, ok.above, ok.inj, ok.has, ok.cab, ok.hd, ok.frames, ok.stk, ok.exf, ok.bs, ok.bsz, ok.noex, ok.exfs, ok.funs, ok.frf⟩
section
variable {X : Cx} {pins : List (Addr × Obj)} {σ : St} {H : Hp} {s : Shared} {E : Value → Shared → Prop}
theorem Inv.wish (I : Inv X pins σ H s) (E : Value → Shared → Prop) : Inv (X.wish E) pins σ H s := ⟨I.ok.wish E, I.os, I.bare, I.base, I.loc, I.cell, I.free, I.freeC, I.pin, I.hok, I.len⟩
theorem Inv.unwish (I : Inv (X.wish E) pins σ H s) : Inv X pins σ H s := ⟨I.ok.unwish, I.os, I.bare, I.base, I.loc, I.cell, I.free, I.freeC, I.pin, I.hok, I.len⟩
theorem SP.unwish {D : Ends} {f : Flow} {s' : Shared} (h : SP (X.wish E) pins D f s') : SP X pins D f s' := by
  cases f with
  | next => obtain ⟨σ', H', I, q⟩ := h; exact ⟨σ', H', I.unwish, q⟩
  | brk => obtain ⟨σ', H', I, q⟩ := h; exact ⟨σ', H', I.unwish, q⟩
  | cont => obtain ⟨σ', H', I, q⟩ := h; exact ⟨σ', H', I.unwish, q⟩
  | ret u => obtain ⟨v, σ', H', I, r, q⟩ := h; exact ⟨v, σ', H', I.unwish, r, q⟩
theorem PSs.nox {st : List Stmt} {t : TS} (h : PSs X.nox st t) : PSs X st t := fun pins s σ H D I hw =>
  wpAny_mono (h pins s σ H D (I.wish _) hw) (fun _ _ q => q.unwish) fun _ _ z => False.elim z
end

section
variable {X : Cx} {st : Stmt} {rest : List Stmt} {t u : TS} {e : Expr} {te : TE} {pos : Pos}
noncomputable def tNext : TS := fun D σ H => D.nx σ H
noncomputable def tSeq (t u : TS) : TS := fun D σ H => t { D with nx := u D } σ H
theorem pss_nil : PSs X [] tNext := fun _ _ σ H _ I h => wpAny_execs_nil ⟨σ, H, I, h⟩
theorem pss_cons (h1 : PS X st t) (h2 : PSs X rest u) : PSs X (st :: rest) (tSeq t u) := by
  intro pins s σ H D I h
  refine wpAny_execs_cons (thn (h1 pins s σ H { D with nx := u D } I h) fun f s1 q => ?_)
  cases f with
  | next =>
    obtain ⟨σ', H', I', q⟩ := q
    exact h2 pins s1 σ' H' D I' q
  | ret v => exact q
  | brk => exact q
  | cont => exact q
theorem pss_one (h1 : PS X st t) : PSs X [st] t := by
  intro pins s σ H D I h
  refine wpAny_execs_cons (thn (h1 pins s σ H D I h) fun f s1 q => ?_)
  cases f with
  | next => exact wpAny_execs_nil q
  | ret v => exact q
  | brk => exact q
  | cont => exact q
theorem Inv.quiet {pins : List (Addr × Obj)} {σ : St} {H : Hp} {s : Shared} (I : Inv X pins σ H s) : interactive X.env = false := by simp [interactive, I.ok.kind]
noncomputable def tDrop (te : TE) : TS := fun D σ H => te σ H fun _ H1 => D.nx σ H1
theorem ps_expr (he : PE X e te) (hs : swapsWith e none pos.line X.env = pure false := by rfl) : PS X (.Expr e pos) (tDrop te) := by
  intro pins s σ H D I h
  exact wpAny_Expr_any (thn (he pins s σ H _ I h) fun v s1 ⟨x, H1, I1, r1, q1⟩ => ⟨σ, H1, I1, q1⟩) I.quiet hs
noncomputable def tRet (te : TE) : TS := fun D σ H => te σ H D.rt
theorem ps_ret (he : PE X e te) : PS X (.Return (some e) pos) (tRet te) := by
  intro pins s σ H D I h
  exact wpAny_Return_some (thn (he pins s σ H _ I h) fun v s1 ⟨x, H1, I1, r1, q1⟩ => ⟨x, σ, H1, I1, r1, q1⟩)
noncomputable def tIfS (c : TT) (t u : TS) : TS := fun D σ H => c σ H fun b H1 => if b = true then t D σ H1 else u D σ H1
theorem ps_if {c : Expr} {a b : List Stmt} {tc : TT} (hc : PT X c tc) (ha : PSs X a t) (hb : PSs X b u) : PS X (.If c a b pos) (tIfS tc t u) := by
  intro pins s σ H D I h
  refine wpAny_If (thn (hc pins s σ H _ I h) fun d s1 ⟨H1, I1, q1⟩ => ?_)
  cases d with
  | true => exact ha pins s1 σ H1 D I1 q1
  | false => exact hb pins s1 σ H1 D I1 q1
end

noncomputable abbrev TG := V → St → Hp → (St → Hp → Prop) → Prop
noncomputable abbrev TGs := List V → St → Hp → (St → Hp → Prop) → Prop
noncomputable def PG (X : Cx) (target : Expr) (t : TG) : Prop :=
  ∀ (pins : List (Addr × Obj)) (s : Shared) (σ : St) (H : Hp) (v : V) (u : Value) (Q : St → Hp → Prop), Inv X pins σ H s → RelV v u → t v σ H Q →
    wpAny (model X.prog X.w) X.A (assign target X.env u) (fun _ s' => ∃ σ' H', Inv X pins σ' H' s' ∧ Q σ' H') X.xe s
noncomputable def PGs (X : Cx) (ts : List Expr) (t : TGs) : Prop :=
  ∀ (pins : List (Addr × Obj)) (s : Shared) (σ : St) (H : Hp) (vs : List V) (us : List Value) (Q : St → Hp → Prop), Inv X pins σ H s → Vals vs us → t vs σ H Q →
    wpAny (model X.prog X.w) X.A (assignInOrder ((assignEach ts X.env).map (·.2)) us) (fun _ s' => ∃ σ' H', Inv X pins σ' H' s' ∧ Q σ' H') X.xe s
section
variable {X : Cx} {pos : Pos}
noncomputable def gName (i : Nat) : TG := fun v σ H Q => Q (σ.set i (some v)) H
theorem pg_name {i : Nat} {x : Str} (hN : X.N.Nodup) (hi : X.N[i]? = some x) (hx : Loc X.env.scope x) (hf : X.fn x = true ∨ X.env.scope.names.lookup x = some .local := by first | exact .inl rfl | exact .inr rfl | assumption) : PG X (.Name x pos) (gName i) := by
  intro pins s σ H v u Q I r h
  exact wpAny_assign_Name (store_ok I hN hi hx r (fun s' I' => ⟨_, H, I', h⟩) hf)
noncomputable def gNil : TGs := fun vs σ H Q => vs = [] ∧ Q σ H
inductive gCons (t : TG) (u : TGs) (vs : List V) (σ : St) (H : Hp) (Q : St → Hp → Prop) : Prop
  | mk (v : V) (r : List V) (h1 : vs = v :: r) (q : t v σ H fun σ' H' => u r σ' H' Q)

theorem pgs_nil : PGs X [] gNil := by
  intro pins s σ H vs us Q I r h
  obtain ⟨e, h⟩ := h
  subst e
  cases r
  exact assignInOrder_nil ⟨σ, H, I, h⟩
theorem pgs_cons {e : Expr} {es : List Expr} {t : TG} {u : TGs} (h1 : PG X e t) (h2 : PGs X es u)
    (hs : (assignEach (e :: es) X.env).map (·.2) = assign e X.env :: (assignEach es X.env).map (·.2) := by rfl) : PGs X (e :: es) (gCons t u) := by
  intro pins s σ H vs us Q I r h
  obtain ⟨v, vr, e1, h⟩ := h
  subst e1
  cases r with
  | cons r rr =>
    rw [hs]
    refine assignInOrder_cons (thn (h1 pins s σ H _ _ _ I r h) fun _ s1 ⟨σ1, H1, I1, q1⟩ => ?_)
    exact h2 pins s1 σ1 H1 _ _ Q I1 rr q1
inductive gTup (K : PySem.W.Frag) (n : Nat) (t : TGs) (v : V) (σ : St) (H : Hp) (Q : St → Hp → Prop) : Prop
  | mk (a : Addr) (xs : List V) (h1 : v = .ref a) (h2 : SqT K H a xs) (h3 : xs.length = n) (q : t xs σ H Q)

theorem pg_tup {es : List Expr} {k : Nat} {t : TGs} {n : Nat} (hc : X.calm = true) (h : PGs X es t)
    (hn : (assignEach es X.env).length = n := by rfl) (hst : (assignEach es X.env).findIdx? (·.1) = none := by rfl) : PG X (.Tuple es k pos) (gTup X.K n t) := by
  intro pins s σ H v u Q I r hw
  obtain ⟨a, xs, e1, hq, hl, hw⟩ := hw
  subst e1
  cases r
  obtain ⟨its, rv, ht, hz⟩ := I.tuple hq
  refine assign_Tuple_tuple (I.ok.hd hc) ht (by simp [hn, ← hl, rv.length]) hst fun h' hx => ?_
  have I1 : Inv X pins σ H { s with heap := h' } := I.kept (t' := s.toks) fun b o e => hx b o (Nat.ne_of_lt (Heap.lt_size e)) e
  exact h pins _ σ H xs _ Q I1 (by simpa using rv) hw
noncomputable def tAsg (te : TE) (g : TG) : TS := fun D σ H => te σ H fun x H1 => g x σ H1 D.nx
theorem ps_asg {tg e : Expr} {te : TE} {g : TG} (he : PE X e te) (hg : PG X tg g) (hs : swapsWithSole [tg] e pos.line X.env = pure false := by rfl) (hw : swappedStores [tg] e X.env = pure none := by rfl)
    (h1 : (assignEach [tg] X.env).map (·.2) = [assign tg X.env] := by rfl) : PS X (.Assign [tg] e pos) (tAsg te g) := by
  intro pins s σ H D I h
  refine wpAny_Assign_stores (thn (he pins s σ H _ I h) fun v s1 ⟨x, H1, I1, r1, q1⟩ => ?_) hs hw
  rw [h1]
  exact thn (hg pins s1 σ H1 x v _ I1 r1 q1) fun _ s2 q => q
theorem ps_set {i : Nat} {x : Str} {e : Expr} {te : TE} {pos' : Pos} (hN : X.N.Nodup) (hi : X.N[i]? = some x) (hx : Loc X.env.scope x) (he : PE X e te) (hs : swapsWith e (some (.Name x pos')) pos.line X.env = pure false := by rfl) (hf : X.fn x = true ∨ X.env.scope.names.lookup x = some .local := by first | exact .inl rfl | exact .inr rfl | assumption) :
    PS X (.Assign [.Name x pos'] e pos) (tAsg te (gName i)) := by
  intro pins s σ H D I h
  refine wpAny_Assign_Name (thn (he pins s σ H _ I h) fun v s1 ⟨y, H1, I1, r1, q1⟩ => ?_) hs
  exact store_ok I1 hN hi hx r1 (fun s2 I2 => ⟨_, H1, I2, q1⟩) hf
noncomputable def tPar (i j : Nat) (ta : TA) : TS := fun D σ H => ta σ H fun vs H1 => ∃ v w, vs = [v, w] ∧ D.nx ((σ.set i (some v)).set j (some w)) H1
theorem ps_par {i j : Nat} {x y : Str} {a b : Expr} {ta : TA} {px py pt : Pos} {kt k2 pt2} (hc : X.calm = true) (hN : X.N.Nodup) (hi : X.N[i]? = some x) (hj : X.N[j]? = some y) (hij : i ≠ j)
    (hx : X.env.scope.names.lookup x = some .local) (hy : X.env.scope.names.lookup y = some .local) (ha : PA X [a, b] ta)
    (hw : swappedStores [.Tuple [.Name x px, .Name y py] kt pt] (.Tuple [a, b] k2 pt2) X.env = pure (some [x, y]))
    (hs : swapsWithSole [.Tuple [.Name x px, .Name y py] kt pt] (.Tuple [a, b] k2 pt2) pos.line X.env = pure false := by rfl) :
    PS X (.Assign [.Tuple [.Name x px, .Name y py] kt pt] (.Tuple [a, b] k2 pt2) pos) (tPar i j ta) := by
  intro pins s σ H D I h
  rw [exec_Assign_arm]
  refine wpAny_bind (wpAny_standAt ?_)
  rw [hs]
  refine wpAny_bind (wpAny_pure ?_)
  rw [if_neg (by decide)]
  refine wpAny_bind (Tuple_ (thn (ha _ pins s σ H _ I h) fun us s1 ⟨vs, H1, I1, r1, q1⟩ => ?_))
  obtain ⟨v, w, e1, q1⟩ := q1
  subst e1
  obtain ⟨u1, u2, rfl, rv, rw'⟩ : ∃ u1 u2, us = [u1, u2] ∧ RelV v u1 ∧ RelV w u2 := by
    cases r1 with
    | cons p q =>
      cases q with
      | cons p' q' =>
        cases q'
        exact ⟨_, _, rfl, p, p'⟩
  refine wpAny_newObj_type ?_ (by show 2 ≤ sizeLine; decide)
  have I2 : Inv X pins σ H1 { s1 with heap := s1.heap.push { cls := .type "tuple", data := .seq [u1, u2].toArray } } := I1.kept (t' := s1.toks) fun b o e => Heap.get?_push_of_some _ e
  rw [hw]
  refine wpAny_bind (wpAny_pure ?_)
  show wpAny (model X.prog X.w) X.A (do rule "assign.swapped-stores"; let items ← unpackItems (.ref s1.heap.objs.size) 2 none; assignInOrder [fun v => bindName X.env y v, fun v => bindName X.env x v] items.reverse; pure Flow.next) _ _ _
  refine wpAny_bind (wpAny_rule (wpAny_bind (unpackItems_tuple (items := #[u1, u2]) (I.ok.hd hc) (IsTup.new s1.heap _) fun h' hx' => ?_)))
  have I3 := I2.kept (h' := h') (t' := s1.toks) fun b o e => hx' b o (Nat.ne_of_lt (Heap.lt_size e)) e
  show wpAny _ _ (assignInOrder [fun v => bindName X.env y v, fun v => bindName X.env x v] [u2, u1] >>= fun _ => pure Flow.next) _ _ _
  refine wpAny_bind (assignInOrder_cons (wpAny_bindName (store_ok I3 hN hj (.inl hy) rw' (fun s2 I4 => ?_) (.inr hy))))
  refine assignInOrder_cons (wpAny_bindName (store_ok I4 hN hi (.inl hx) rv (fun s3 I5 => assignInOrder_nil (wpAny_pure ?_)) (.inr hx)))
  rw [List.set_comm _ _ (Ne.symm hij)] at I5
  exact ⟨_, H1, I5, q1⟩
end

section
variable {X : Cx} {pos : Pos}
end

structure It where
  go : Nat → Hp → Prop
  yld : Nat → Hp → V → Hp → Prop
  stop : Nat → Hp → Prop
noncomputable def FpOk (X : Cx) (pins : List (Addr × Obj)) (H : Hp) (b : Addr) : Prop :=
  H b = none ∧ b ≠ X.env.locals ∧ b ∉ X.fs ∧ (b ∈ X.ex ∨ X.s₀.heap.objs.size ≤ b) ∧ (∀ x c, X.env.cells.lookup x = some c → c ≠ b) ∧ ∀ p ∈ X.pn ++ pins, p.1 ≠ b
theorem Inv.fpOk {X : Cx} {pins : List (Addr × Obj)} {σ : St} {H H' : Hp} {s : Shared} {b : Addr} (I : Inv X pins σ H s) (hb : s.heap.objs.size ≤ b) (hn : H' b = none) : FpOk X pins H' b := by
  refine ⟨hn, Nat.ne_of_gt (Nat.lt_of_lt_of_le I.lt hb), I.nofs hb, .inr (Nat.le_trans I.sz hb), fun x c e z => ?_, fun p hp z => ?_⟩
  · obtain ⟨v, q⟩ := I.cell x c e
    exact absurd (Nat.lt_of_lt_of_le q.lt (by rw [z]; exact hb)) (Nat.lt_irrefl _)
  · exact absurd (Nat.lt_of_lt_of_le (Heap.lt_size (I.pin p hp).1) (by rw [z]; exact hb)) (Nat.lt_irrefl _)
structure Turn (P : Program) (w : World) (K : PySem.W.Frag) (tg : Expr) (J : It) (fp : List Addr) (it : Addr) (tn : Nat → Heap → Prop) : Prop where
  mem : it ∈ fp
  obj : ∀ i h, tn i h → ∀ b ∈ fp, ∃ o, h.get? b = some o ∧ ∀ v, o.data ≠ .cell v
  keep : ∀ i h h', tn i h → (∀ b ∈ fp, ∀ o, h.get? b = some o → h'.get? b = some o) → tn i h'
  item : ∀ (X : Cx), X.prog = P → X.w = w → X.K = K → X.calm = true → ∀ (i : Nat) (pins : List (Addr × Obj)) (s : Shared) (σ : St) (H : Hp) (E : Value → Shared → Prop), Inv X pins σ H s → (∀ b ∈ fp, FpOk X pins H b) → tn i s.heap → J.go i H →
    wpAny (model P w) X.A (pyNext (.ref it)) (fun r s1 => ∃ u, r = some u ∧
      wpAny (model P w) X.A (letOwnedTupleGo tg (.ref it) u) (fun _ s2 => ∃ x H', Inv X pins σ H' s2 ∧ RelV x u ∧ J.yld i H x H' ∧ tn (i + 1) s2.heap ∧ ∀ b ∈ fp, H' b = none) E s1) E s
  done : ∀ (X : Cx), X.prog = P → X.w = w → X.K = K → X.calm = true → ∀ (i : Nat) (pins : List (Addr × Obj)) (s : Shared) (σ : St) (H : Hp) (E : Value → Shared → Prop), Inv X pins σ H s → (∀ b ∈ fp, FpOk X pins H b) → tn i s.heap → J.stop i H →
    wpAny (model P w) X.A (pyNext (.ref it)) (fun r s1 => r = none ∧ Inv X pins σ H s1) E s
  self : ∀ (A : Around) (i : Nat) (s : Shared) (Q : Value → Shared → Prop) (E : Value → Shared → Prop), tn i s.heap → Q (.ref it) s → wpAny (model P w) A (pyIter (.ref it)) Q E s
noncomputable abbrev TI := St → Hp → (It → Hp → Prop) → Prop
noncomputable def PIE (X : Cx) (pins : List (Addr × Obj)) (σ : St) (tg : Expr) (R : It → Hp → Prop) (itv : Value) (s2 : Shared) : Prop :=
  ∃ (it : Addr) (fp : List Addr) (tn : Nat → Heap → Prop) (J : It) (H' : Hp), itv = .ref it ∧ Inv X pins σ H' s2 ∧ Turn X.prog X.w X.K tg J fp it tn ∧ tn 0 s2.heap ∧ (∀ b ∈ fp, FpOk X pins H' b) ∧ R J H'
noncomputable def PI (X : Cx) (tg iter : Expr) (wi : TI) : Prop :=
  ∀ (pins : List (Addr × Obj)) (s : Shared) (σ : St) (H : Hp) (R : It → Hp → Prop), Inv X pins σ H s → wi σ H R →
    wpAny (model X.prog X.w) X.A (eval iter X.env) (fun v s1 => wpAny (model X.prog X.w) X.A (pyIter v) (PIE X pins σ tg R) X.xe s1) X.xe s

theorem go_of {M : Model} {A : Around} {E : Value → Shared → Prop} {s : Shared} {tg : Expr} {it : Addr} {u : Value} {o : Obj} {n : String} {vs : Array Value} {Q : Unit → Shared → Prop} (ho : s.heap.get? it = some o) (hc : o.cls = .type n) (hd : o.data = .fields vs)
    (hn : ["enumerate", "zip", "dict_itemiterator", "dict_reverseitemiterator", "odict_iterator", "itertools.zip_longest", "itertools.pairwise"].contains n = false) (hQ : Q () s) : wpAny M A (letOwnedTupleGo tg (.ref it) u) Q E s := by
  unfold letOwnedTupleGo
  cases tg <;> first
    | exact wpAny_pure hQ
    | (cases u <;> first
        | exact wpAny_pure hQ
        | (refine wpAny_bind (wpAny_load ho ?_)
           rw [hc, hd]
           show wpAny M A (if (["enumerate", "zip", "dict_itemiterator", "dict_reverseitemiterator", "odict_iterator", "itertools.zip_longest", "itertools.pairwise"].contains n && vs[0]? == some (rawInt _)) = true then _ else _) Q E s
           rw [if_neg (by intro h; rw [hn, Bool.false_and] at h; cases h)]
           exact wpAny_pure hQ))

noncomputable def Itl (K : PySem.W.Frag) (a : Addr) : It :=
  ⟨fun i H => ∃ xs x, SqL K H a xs ∧ xs[i]? = some x, fun i H x H' => H' = H ∧ ∀ xs, SqL K H a xs → xs[i]? = some x, fun i H => ∃ xs, SqL K H a xs ∧ xs.length ≤ i⟩
noncomputable def Itr (lo : Int) (n : Nat) : It := ⟨fun i _ => i < n, fun i H x H' => H' = H ∧ x = .int (lo + i), fun i _ => n ≤ i⟩
theorem turn_list {P : Program} {w : World} {K : PySem.W.Frag} {tg : Expr} (a it : Addr) : Turn P w K tg (Itl K a) [it] it (fun i h => h.IsListIter it a i) where
  mem := by simp
  obj := fun i h st b hb => by
    have e : b = it := by simpa using hb
    subst e
    obtain ⟨o, e, c, d⟩ := st
    exact ⟨o, e, fun v z => by rw [d] at z; cases z⟩
  keep := fun i h h' st k => st.at fun o e => k it (by simp) o e
  item := by
    intro X hP hw hK hc i pins s σ H E I hf st hg
    subst hP hw hK
    obtain ⟨xs, x, hq, hx⟩ := hg
    obtain ⟨its, rv, p, hz⟩ := I.list hq
    obtain ⟨u, hu, ru⟩ := rv.get hx
    obtain ⟨f0, f1, f2, f3, f4, f5⟩ := hf it (by simp)
    refine wpAny_pyNext_list_item st p.isList (x := u) (by simpa using hu) fun h' st' sb => ?_
    have I1 : Inv X pins σ H { s with heap := h' } := I.turned (t' := s.toks) (fun b o hb e => (sb.2 b hb).trans e) f0 f1 f3 f4 f5
    obtain ⟨o, e, c, d⟩ := id st'
    exact ⟨u, rfl, go_of (s := { s with heap := h' }) e c d (by decide) ⟨x, H, I1, ru, ⟨rfl, fun ys hy => by rw [I.list_inj hy hq]; exact hx⟩, st', fun b hb => (hf b hb).1⟩⟩
  done := by
    intro X hP hw hK hc i pins s σ H E I hf st hg
    subst hP hw hK
    obtain ⟨xs, hq, hx⟩ := hg
    obtain ⟨its, rv, p, hz⟩ := I.list hq
    obtain ⟨f0, f1, f2, f3, f4, f5⟩ := hf it (by simp)
    have hl := rv.length
    exact wpAny_pyNext_list_end (I.ok.hd hc) st p.isList (by simp; omega) fun h' eb => ⟨rfl, I.turned (t' := s.toks) (fun b o hb e => eb b o hb e) f0 f1 f3 f4 f5⟩
  self := fun _ _ _ _ _ st h => wpAny_pyIter_listiter st h
theorem turn_range {P : Program} {w : World} {K : PySem.W.Frag} {tg : Expr} (it : Addr) (lo : Int) (n : Nat) : Turn P w K tg (Itr lo n) [it] it (fun i h => IsRangeIter h it (lo + (i : Nat) * 1) ((n : Int) - (i : Nat)) 1) where
  mem := by simp
  obj := fun i h st b hb => by
    have e : b = it := by simpa using hb
    subst e
    exact ⟨_, st, fun v z => by
      have z' : Data.fields _ = Data.cell v := z
      cases z'⟩
  keep := fun i h h' st k => k it (by simp) _ st
  item := by
    intro X hP hw hK hc i pins s σ H E I hf st hg
    subst hP hw hK
    obtain ⟨f0, f1, f2, f3, f4, f5⟩ := hf it (by simp)
    have W := Walks.range (prog := X.prog) (w := X.w) (I.ok.hd hc) it lo 1 n
    refine W.item i s _ _ hg st fun v h' tk hv st' kk => ?_
    obtain ⟨t, rfl⟩ := hv
    have I1 : Inv X pins σ H { s with heap := h', toks := tk } := I.turned (fun b o hb e => kk b o (by simpa using hb) e) f0 f1 f3 f4 f5
    refine ⟨_, rfl, go_of (s := { s with heap := h', toks := tk }) (n := "range_iterator") st' rfl rfl (by decide) ⟨.int (lo + i), H, I1, ⟨t, ?_⟩, ⟨rfl, rfl⟩, st', fun b hb => (hf b hb).1⟩⟩
    rw [Int.mul_one]
  done := by
    intro X hP hw hK hc i pins s σ H E I hf st hg
    subst hP hw hK
    obtain ⟨f0, f1, f2, f3, f4, f5⟩ := hf it (by simp)
    exact wpAny_pyNext_range_end (I.ok.hd hc) st (by have : n ≤ i := hg; omega) fun h' eb => ⟨rfl, I.turned (t' := s.toks) (fun b o hb e => eb b o hb e) f0 f1 f3 f4 f5⟩
  self := fun _ _ _ _ _ st h => wpAny_pyIter_rangeiter st h
end L2

namespace L2
open PySem PySem.Spec PyProof.Rows
section
variable {X : Cx} {tg : Expr}
inductive IsLs (K : PySem.W.Frag) (x : V) (H1 : Hp) (R : It → Hp → Prop) : Prop
  | mk (a : Addr) (h1 : x = .ref a) (h2 : ∃ xs, SqL K H1 a xs) (r : R (Itl K a) H1)
noncomputable def iList (K : PySem.W.Frag) (tl : TE) : TI := fun σ H R => tl σ H fun x H1 => IsLs K x H1 R
theorem pi_list {l : Expr} {tl : TE} (hl : PE X l tl) : PI X tg l (iList X.K tl) := by
  intro pins s σ H R I h
  refine thn (hl pins s σ H _ I h) fun v s1 ⟨x, H1, I1, r1, q1⟩ => ?_
  obtain ⟨a, e, ⟨xs, hq⟩, q⟩ := q1
  subst e
  cases r1
  obtain ⟨its, rv, p, hz⟩ := I1.list hq
  refine wpAny_pyIter_list p.isList ?_
  refine ⟨s1.heap.objs.size, [s1.heap.objs.size], _, _, H1, rfl, I1.kept (t' := s1.toks) fun b o e => Heap.get?_push_of_some _ e, turn_list a _, ⟨_, Heap.get?_push_size _ rfl, rfl, rfl⟩, fun b hb => ?_, q⟩
  have e : b = s1.heap.objs.size := by simpa using hb
  subst e
  exact I1.fpOk (Nat.le_refl _) (I1.hok.fresh (Nat.le_refl _))
theorem range_it {pins : List (Addr × Obj)} {σ : St} {H : Hp} {s : Shared} {R : It → Hp → Prop} {E : Value → Shared → Prop} {lo hi : Int} {t u v : Tok} {tk : Nat} (I : Inv X pins σ H s) (h1 : -(2 ^ 62) ≤ lo) (h2 : lo < 2 ^ 62) (h3 : -(2 ^ 62) ≤ hi) (h4 : hi < 2 ^ 62)
    (q : R (Itr lo (hi - lo).toNat) H) : wpAny (model X.prog X.w) X.A (pyIter (.ref s.heap.objs.size)) (PIE X pins σ tg R) E { s with heap := s.heap.push { cls := .type "range", data := .fields #[.int lo t, .int hi u, .int 1 v] }, toks := tk } := by
  refine wpAny_pyIter_range (IsRange.new ..) (small_one h1 h2 h3 h4) ?_
  have I1 : Inv X pins σ H { s with heap := s.heap.push { cls := .type "range", data := .fields #[.int lo t, .int hi u, .int 1 v] }, toks := tk } := I.kept fun b o e => Heap.get?_push_of_some _ e
  refine ⟨(s.heap.push { cls := .type "range", data := .fields #[.int lo t, .int hi u, .int 1 v] }).objs.size, [(s.heap.push { cls := .type "range", data := .fields #[.int lo t, .int hi u, .int 1 v] }).objs.size], _, _, H, rfl,
    I1.kept (t' := tk) fun b o e => Heap.get?_push_of_some _ e, turn_range _ lo (hi - lo).toNat, ?_, fun b hb => ?_, q⟩
  · have e1 : lo + ((0 : Nat) : Int) * 1 = lo := by simp
    have e2 : (((hi - lo).toNat : Nat) : Int) - ((0 : Nat) : Int) = Builtin.Range.rangeSize lo hi 1 := by rw [rangeSize_one]; split <;> omega
    show IsRangeIter _ _ (lo + ((0 : Nat) : Int) * 1) ((((hi - lo).toNat : Nat) : Int) - ((0 : Nat) : Int)) 1
    rw [e1, e2]
    exact Heap.get?_push_size _ rfl
  · have e : b = (s.heap.push { cls := .type "range", data := .fields #[.int lo t, .int hi u, .int 1 v] }).objs.size := by simpa using hb
    subst e
    exact I1.fpOk (Nat.le_refl _) (I1.hok.fresh (Nat.le_refl _))
inductive IsRn (vs : List V) (H1 : Hp) (R : It → Hp → Prop) : Prop
  | mk (j : Int) (h1 : vs = [.int j]) (h2 : -(2 ^ 62) ≤ j) (h3 : j < 2 ^ 62) (r : R (Itr 0 j.toNat) H1)
noncomputable def iRng1 (ta : TA) : TI := fun σ H R => ta σ H fun vs H1 => IsRn vs H1 R
theorem pi_range1 {a : Expr} {ta : TA} {p pos : Pos} (hg : Gl X "range") (hm : X.mg "range" = none) (ha : PA X [a] ta) (hs : starEach [a] X.env = [(false, eval a X.env)] := by rfl) : PI X tg (.Call (.Name "range" p) [a] [] pos) (iRng1 ta) := by
  intro pins s σ H R I h
  refine Call_ (ld_blt I hg hm boot_range (PyProof.Rows.callWith_type1 (thn (ha pos pins s σ H _ I h) fun us s1 ⟨vs, H1, I1, r1, q1⟩ => ?_) hs rfl))
  obtain ⟨j, e, q1, q2, q⟩ := q1
  subst e
  cases r1 with
  | cons r rr =>
    cases rr
    obtain ⟨t, rfl⟩ := r
    exact call_range_1 (range_it I1 (by omega) (by omega) q1 q2 (by simpa using q))

noncomputable def tFor (wi : TI) (g : TG) (tb : TS) : TS := fun D σ H => wi σ H fun J H1 => ∃ W : Nat → Nat → St → Hp → Prop, (∃ m, W 0 m σ H1) ∧ ∀ i m σ H, W i m σ H →
  (J.stop i H ∧ D.nx σ H) ∨ (J.go i H ∧ ∃ N : St → Hp → Prop, (∀ σ' H', N σ' H' → ∃ m', m' < m ∧ W (i + 1) m' σ' H') ∧ ∀ x H', J.yld i H x H' → g x σ H' fun σ2 H2 => tb { D with nx := N, ct := N, bk := D.nx } σ2 H2)
noncomputable def pinsAt (fp : List Addr) (h : Heap) : List (Addr × Obj) := fp.filterMap fun b => (h.get? b).map fun o => (b, o)
theorem mem_pinsAt {fp : List Addr} {h : Heap} {b : Addr} {o : Obj} (hb : b ∈ fp) (e : h.get? b = some o) : (b, o) ∈ pinsAt fp h := List.mem_filterMap.mpr ⟨b, hb, by rw [e]; rfl⟩
theorem of_pinsAt {fp : List Addr} {h : Heap} {p : Addr × Obj} (hp : p ∈ pinsAt fp h) : p.1 ∈ fp ∧ h.get? p.1 = some p.2 := by
  obtain ⟨b, hb, e⟩ := List.mem_filterMap.mp hp
  cases q : h.get? b with
  | none => rw [q] at e; cases e
  | some o =>
    rw [q] at e
    have e' : (b, o) = p := Option.some.inj e
    subst e'
    exact ⟨hb, q⟩
theorem Inv.pinned {pins : List (Addr × Obj)} {σ : St} {H : Hp} {s : Shared} {fp : List Addr} (I : Inv X pins σ H s) (hf : ∀ b ∈ fp, FpOk X pins H b) (ho : ∀ b ∈ fp, ∃ o, s.heap.get? b = some o ∧ ∀ v, o.data ≠ .cell v) : Inv X (pins ++ pinsAt fp s.heap) σ H s :=
  I.pins_of fun p hp => (List.mem_append.mp hp).elim (fun z => I.pin p (List.mem_append_right _ z)) fun z => by
    obtain ⟨hb, e⟩ := of_pinsAt z
    obtain ⟨f0, f1, f2, _⟩ := hf p.1 hb
    obtain ⟨o, e', d⟩ := ho p.1 hb
    rw [e] at e'; cases e'
    exact ⟨e, f0, f1, f2, d⟩
theorem Inv.unpinned {pins pl : List (Addr × Obj)} {σ : St} {H : Hp} {s : Shared} (I : Inv X (pins ++ pl) σ H s) : Inv X pins σ H s := I.pins_of fun p hp => I.pin p (List.mem_append_right _ (List.mem_append_left _ hp))
theorem ps_for {iter : Expr} {body : List Stmt} {wi : TI} {g : TG} {tb : TS} {pos : Pos} (hp : PassesOwn (model X.prog X.w) X.A X.env X.xe) (hc : X.calm = true) (hi : PI X tg iter wi) (hg : PG X tg g) (hb : PSs X body tb)
    (hs : ∀ x, foldedSetIterable iter X.env x = pure x := by intro _; rfl) : PS X (.For tg iter body [] pos) (tFor wi g tb) := by
  intro pins s σ H D I h
  refine wpAny_For (thn (hi pins s σ H _ I h) fun v s1 h1 => thn h1 fun itv s2 h2 => ?_) hs
  obtain ⟨it, fp, tn, J, H2, e, I2, T, st2, f2, W, ⟨m0, w0⟩, turn⟩ := h2
  subst e
  -- what stays true of the iterator's objects through the loop
  have stat : ∀ {H' : Hp}, (∀ b ∈ fp, H' b = none) → ∀ b ∈ fp, FpOk X pins H' b := fun hn b hb => ⟨hn b hb, (f2 b hb).2⟩
  refine codeAny_forLoop_any (fun n s' => ∃ i σ' H', Inv X pins σ' H' s' ∧ tn i s'.heap ∧ (∀ b ∈ fp, H' b = none) ∧ W i n σ' H') ?_ m0 ⟨0, σ, H2, I2, st2, fun b hb => (f2 b hb).1, w0⟩
  rintro n s3 ⟨i, σ3, H3, I3, st3, fr3, w3⟩
  rcases turn i n σ3 H3 w3 with ⟨stop, qn⟩ | ⟨go, N, hN, step⟩
  · refine wpAny_passesOwn hp (thn (T.done X rfl rfl rfl hc i pins s3 σ3 H3 X.xe I3 (stat fr3) st3 stop) fun r s4 ⟨hr, I4⟩ => ?_)
    subst hr
    exact wpAny_execs_nil ⟨σ3, H3, I4, qn⟩
  · refine wpAny_passesOwn hp (thn (T.item X rfl rfl rfl hc i pins s3 σ3 H3 X.xe I3 (stat fr3) st3 go) fun r s4 ⟨u, hr, h4⟩ => ?_)
    subst hr
    refine wpAny_passesOwn hp (thn h4 fun _ s5 ⟨x, H5, I5, r5, y5, st5, fr5⟩ => ?_)
    have I5' := I5.pinned (stat fr5) (T.obj _ _ st5)
    refine wpAny_passesOwn hp (thn (hg _ s5 σ3 H5 x u _ I5' r5 (step x H5 y5)) fun _ s6 ⟨σ6, H6, I6, q6⟩ => ?_)
    refine wpAny_passesOwn hp (thn (hb _ s6 σ6 H6 _ I6 q6) fun f s7 q7 => ?_)
    have again : ∀ {σ7 : St} {H7 : Hp}, Inv X (pins ++ pinsAt fp s5.heap) σ7 H7 s7 → N σ7 H7 → ∃ m, m < n ∧ ∃ i σ' H', Inv X pins σ' H' s7 ∧ tn i s7.heap ∧ (∀ b ∈ fp, H' b = none) ∧ W i m σ' H' := fun {σ7 H7} I7 n7 => by
      obtain ⟨m', hm, w7⟩ := hN σ7 H7 n7
      refine ⟨m', hm, i + 1, σ7, H7, I7.unpinned, T.keep _ _ _ st5 fun b hb o e => (I7.pin (b, o) (List.mem_append_right _ (List.mem_append_right _ (mem_pinsAt hb e)))).1, fun b hb => ?_, w7⟩
      obtain ⟨o, e, d⟩ := T.obj _ _ st5 b hb
      exact (I7.pin (b, o) (List.mem_append_right _ (List.mem_append_right _ (mem_pinsAt hb e)))).2.1
    cases f with
    | next => obtain ⟨σ7, H7, I7, n7⟩ := q7; exact again I7 n7
    | cont => obtain ⟨σ7, H7, I7, n7⟩ := q7; exact again I7 n7
    | brk => obtain ⟨σ7, H7, I7, q7⟩ := q7; exact ⟨σ7, H7, I7.unpinned, q7⟩
    | ret v => obtain ⟨x7, σ7, H7, I7, r7, q7⟩ := q7; exact ⟨x7, σ7, H7, I7.unpinned, r7, q7⟩
end

theorem for_list {K : PySem.W.Frag} {a : Addr} {xs : List V} {g : TG} {tb : TS} {D : Ends} {σ : St} {H : Hp} (Pv : Nat → St → Hp → Prop) (h0 : Pv 0 σ H) (hl : ∀ i σ H, i ≤ xs.length → Pv i σ H → SqL K H a xs)
    (hs : ∀ i x σ H, xs[i]? = some x → Pv i σ H → g x σ H fun σ2 H2 => tb { D with nx := Pv (i + 1), ct := Pv (i + 1), bk := D.nx } σ2 H2) (hd : ∀ σ H, Pv xs.length σ H → D.nx σ H) :
    ∃ W : Nat → Nat → St → Hp → Prop, (∃ m, W 0 m σ H) ∧ ∀ i m σ H, W i m σ H →
      ((Itl K a).stop i H ∧ D.nx σ H) ∨ ((Itl K a).go i H ∧ ∃ N : St → Hp → Prop, (∀ σ' H', N σ' H' → ∃ m', m' < m ∧ W (i + 1) m' σ' H') ∧ ∀ x H', (Itl K a).yld i H x H' → g x σ H' fun σ2 H2 => tb { D with nx := N, ct := N, bk := D.nx } σ2 H2) := by
  refine ⟨fun i m σ H => m = xs.length - i ∧ i ≤ xs.length ∧ Pv i σ H, ⟨xs.length, by simp, Nat.zero_le _, h0⟩, ?_⟩
  rintro i m σ H ⟨rfl, hi, p⟩
  have q := hl i σ H hi p
  by_cases hlt : i < xs.length
  · refine .inr ⟨⟨xs, xs[i], q, by simp [hlt]⟩, Pv (i + 1), fun σ' H' p' => ⟨xs.length - (i + 1), by omega, rfl, hlt, p'⟩, fun x H' y => ?_⟩
    obtain ⟨e, y⟩ := y
    subst e
    exact hs i x σ _ (y xs q) p
  · have e : i = xs.length := by omega
    subst e
    exact .inl ⟨⟨xs, q, Nat.le_refl _⟩, hd σ H p⟩
end L2

namespace L2
open PySem PySem.Spec PyProof.Rows

noncomputable abbrev R2 := V → V → Hp → VK → Prop
noncomputable def OpR (X : Cx) (f : Value → Value → Sem Value) (r : R2) : Prop :=
  ∀ (pins : List (Addr × Obj)) (s : Shared) (σ : St) (H : Hp) (x y : V) (v u : Value) (Q : VK), Inv X pins σ H s → RelV x v → RelV y u → r x y H Q →
    wpAny (model X.prog X.w) X.A (f v u) (EP X pins σ Q) X.xe s
noncomputable def UnR (X : Cx) (f : Value → Sem Value) (r : V → Hp → VK → Prop) : Prop :=
  ∀ (pins : List (Addr × Obj)) (s : Shared) (σ : St) (H : Hp) (x : V) (v : Value) (Q : VK), Inv X pins σ H s → RelV x v → r x H Q →
    wpAny (model X.prog X.w) X.A (f v) (EP X pins σ Q) X.xe s
noncomputable def CallR (X : Cx) (f : Value) (r : List V → Hp → VK → Prop) : Prop :=
  ∀ (pins : List (Addr × Obj)) (s : Shared) (σ : St) (H : Hp) (xs : List V) (us : List Value) (Q : VK), Inv X pins σ H s → Vals xs us → r xs H Q →
    wpAny (model X.prog X.w) X.A (call f us) (EP X pins σ Q) X.xe s
noncomputable def TruR (X : Cx) (r : V → Hp → (Bool → Hp → Prop) → Prop) : Prop :=
  ∀ (pins : List (Addr × Obj)) (s : Shared) (σ : St) (H : Hp) (x : V) (v : Value) (Q : Bool → Hp → Prop), Inv X pins σ H s → RelV x v → r x H Q →
    wpAny (model X.prog X.w) X.A (truthy v) (TP X pins σ Q) X.xe s

noncomputable def tOp (r : R2) (ta tb : TE) : TE := fun σ H Q => ta σ H fun x H1 => tb σ H1 fun y H2 => r x y H2 Q
noncomputable def tUn (r : V → Hp → VK → Prop) (ta : TE) : TE := fun σ H Q => ta σ H fun x H1 => r x H1 Q
inductive rI (C : Int → Int → Prop) (g : Int → Int → V) (x : V) (y : V) (H : Hp) (Q : VK) : Prop
  | mk (i : _) (j : _) (h0_ : x = .int i) (h1_ : y = .int j) (h2_ : C i j) (h3_ : Q (g i j) H)
inductive rI0 (g : Int → Int → V) (x : V) (y : V) (H : Hp) (Q : VK) : Prop
  | mk (i : _) (j : _) (h0_ : x = .int i) (h1_ : y = .int j) (h2_ : Q (g i j) H)
noncomputable def rU (g : Int → V) : V → Hp → VK → Prop := fun x H Q => ∃ i, x = .int i ∧ Q (g i) H

section
variable {X : Cx} {a b c : Expr} {ta tb tc : TE} {pos : Pos}

theorem binT (ha : PE X a ta) (hb : PE X b tb) {pins : List (Addr × Obj)} {s : Shared} {σ : St} {H : Hp} {R : V → V → Hp → Prop} (I : Inv X pins σ H s)
    (h : ta σ H fun x H1 => tb σ H1 fun y H2 => R x y H2) {Q : Value → Shared → Prop} {f : Value → Value → Sem Value}
    (hf : ∀ v u s2 x y H2, Inv X pins σ H2 s2 → RelV x v → RelV y u → R x y H2 → wpAny (model X.prog X.w) X.A (f v u) Q X.xe s2) :
    wpAny (model X.prog X.w) X.A (eval a X.env) (fun v s₁ => wpAny (model X.prog X.w) X.A (eval b X.env) (fun u s₂ => wpAny (model X.prog X.w) X.A (f v u) Q X.xe s₂) X.xe s₁) X.xe s := by
  refine thn (ha pins s σ H _ I h) fun v s1 ⟨x, H1, I1, r1, q1⟩ => ?_
  refine thn (hb pins s1 σ H1 _ I1 q1) fun u s2 ⟨y, H2, I2, r2, q2⟩ => ?_
  exact hf v u s2 x y H2 I2 r1 r2 q2

theorem pe_op {op : Operator} {r : R2} (ho : OpR X (binaryOp op) r) (ha : PE X a ta) (hb : PE X b tb) : PE X (.BinOp a op b pos) (tOp r ta tb) := by
  intro pins s σ H Q I h
  exact wpAny_BinOp (binT ha hb I h fun v u s2 x y H2 I2 rx ry q => ho pins s2 σ H2 x y v u Q I2 rx ry q)
theorem pe_un {op : UnaryOp} {r : V → Hp → VK → Prop} (ho : UnR X (unaryOp op) r) (ha : PE X a ta) : PE X (.UnaryOp op a pos) (tUn r ta) := by
  intro pins s σ H Q I h
  exact UnaryOp_ (thn (ha pins s σ H _ I h) fun v s1 ⟨x, H1, I1, r1, q1⟩ => ho pins s1 σ H1 x v Q I1 r1 q1)

theorem opI {f : Value → Value → Sem Value} {C : Int → Int → Prop} {g : Int → Int → Int}
    (rule : ∀ (i j : Int) (t u : Tok) (s : Shared) (Q : Value → Shared → Prop) (E : Value → Shared → Prop), C i j → Q (.int (g i j) s.toks) { s with toks := s.toks + 1 } → wpAny (model X.prog X.w) X.A (f (.int i t) (.int j u)) Q E s) :
    OpR X f (rI C fun i j => .int (g i j)) := by
  intro pins s σ H x y v u Q I rx ry h
  obtain ⟨i, j, rfl, rfl, hc, q⟩ := h
  obtain ⟨t, rfl⟩ := rx
  obtain ⟨t', rfl⟩ := ry
  exact rule i j t t' s _ _ hc ⟨.int (g i j), H, I.tok _, ⟨_, rfl⟩, q⟩
theorem opI0 {f : Value → Value → Sem Value} {g : Int → Int → Int}
    (rule : ∀ (i j : Int) (t u : Tok) (s : Shared) (Q : Value → Shared → Prop) (E : Value → Shared → Prop), Q (.int (g i j) s.toks) { s with toks := s.toks + 1 } → wpAny (model X.prog X.w) X.A (f (.int i t) (.int j u)) Q E s) :
    OpR X f (rI0 fun i j => .int (g i j)) := by
  intro pins s σ H x y v u Q I rx ry h
  obtain ⟨i, j, rfl, rfl, q⟩ := h
  obtain ⟨t, rfl⟩ := rx
  obtain ⟨t', rfl⟩ := ry
  exact rule i j t t' s _ _ ⟨.int (g i j), H, I.tok _, ⟨_, rfl⟩, q⟩
theorem opB0 {f : Value → Value → Sem Value} {g : Int → Int → Bool}
    (rule : ∀ (i j : Int) (t u : Tok) (s : Shared) (Q : Value → Shared → Prop) (E : Value → Shared → Prop), Q (.bool (g i j)) s → wpAny (model X.prog X.w) X.A (f (.int i t) (.int j u)) Q E s) :
    OpR X f (rI0 fun i j => .bl (g i j)) := by
  intro pins s σ H x y v u Q I rx ry h
  obtain ⟨i, j, rfl, rfl, q⟩ := h
  obtain ⟨t, rfl⟩ := rx
  obtain ⟨t', rfl⟩ := ry
  exact rule i j t t' s _ _ ⟨.bl (g i j), H, I, rfl, q⟩

noncomputable def CDiv (i j : Int) : Prop := 0 < j ∧ j < 1073741824
noncomputable def CMul (i j : Int) : Prop := (-(2 ^ 64) < i ∧ i < 2 ^ 64) ∨ (-(2 ^ 64) < j ∧ j < 2 ^ 64)
theorem CMul.ok {i j : Int} (h : CMul i j) : IntMulOk i j := by
  rcases h with ⟨h1, h2⟩ | ⟨h1, h2⟩
  · exact .of_left (intBits_le_64 h1 h2)
  · exact .of_right (intBits_le_64 h1 h2)

theorem op_add : OpR X (binaryOp .Add) (rI0 fun i j => .int (i + j)) := opI0 fun _ _ _ _ _ _ _ q => add_int q
theorem op_sub : OpR X (binaryOp .Sub) (rI0 fun i j => .int (i - j)) := opI0 fun _ _ _ _ _ _ _ q => sub_int q
theorem op_mul : OpR X (binaryOp .Mult) (rI CMul fun i j => .int (i * j)) := opI fun _ _ _ _ _ _ _ hc q => mul_int q hc.ok
theorem op_fdiv : OpR X (binaryOp .FloorDiv) (rI CDiv fun i j => .int (i / j)) := opI fun i j _ _ _ _ _ hc q => by
  have h1 : (0 : Int) < j := hc.1
  have h2 : j < 1073741824 := hc.2
  exact floordiv_int (by omega) (by rw [Int.fdiv_eq_ediv_of_nonneg i (by omega)]; exact q) (.inl (PyProof.noPylong_small (by omega)))
theorem op_mod : OpR X (binaryOp .Mod) (rI (fun _ j => 0 < j) fun i j => .int (i % j)) := opI fun i j _ _ _ _ _ hc q => by
  have h1 : (0 : Int) < j := hc
  exact mod_int' (by omega) (by rw [Int.fmod_eq_emod_of_nonneg i (by omega)]; exact q)


theorem unI {f : Value → Sem Value} {g : Int → Int}
    (rule : ∀ (i : Int) (t : Tok) (s : Shared) (Q : Value → Shared → Prop) (E : Value → Shared → Prop), Q (.int (g i) s.toks) { s with toks := s.toks + 1 } → wpAny (model X.prog X.w) X.A (f (.int i t)) Q E s) :
    UnR X f (rU fun i => .int (g i)) := by
  intro pins s σ H x v Q I rx h
  obtain ⟨i, rfl, q⟩ := h
  obtain ⟨t, rfl⟩ := rx
  exact rule i t s _ _ ⟨.int (g i), H, I.tok _, ⟨_, rfl⟩, q⟩
theorem un_neg : UnR X (unaryOp .USub) (rU fun i => .int (-i)) := unI fun _ _ _ _ _ q => neg_int q

end

noncomputable def scal : V → V → Bool
  | .non, .non => true | .non, .int _ => true | .int _, .non => true | .non, .bl _ => true | .bl _, .non => true | .non, .str _ => true | .str _, .non => true
  | .int _, .int _ => true | .bl _, .bl _ => true | .str _, .str _ => true | .byt _, .byt _ => true
  | .int _, .str _ => true | .str _, .int _ => true | .bl _, .str _ => true | .str _, .bl _ => true
  | _, _ => false
noncomputable def rEq : R2 := fun x y H Q => scal x y = true ∧ Q (.bl (decide (x = y))) H
noncomputable def rNe : R2 := fun x y H Q => scal x y = true ∧ Q (.bl (!decide (x = y))) H

theorem dec_int {i j : Int} : decide (V.int i = V.int j) = (i == j) := by
  rw [Bool.eq_iff_iff]
  simp
theorem dec_bl {i j : Bool} : decide (V.bl i = V.bl j) = (i == j) := by
  rw [Bool.eq_iff_iff]
  simp
theorem dec_str {i j : Str} : decide (V.str i = V.str j) = (i == j) := by
  rw [Bool.eq_iff_iff]
  simp
theorem dec_byt {i j : Array UInt8} : decide (V.byt i = V.byt j) = (i.toList == j.toList) := by
  rw [Bool.eq_iff_iff]
  cases i
  cases j
  simp

section
variable {X : Cx} {a b c : Expr} {ta tb tc : TE} {pos : Pos}
theorem fin_bl {pins : List (Addr × Obj)} {σ : St} {H : Hp} {s : Shared} {Q : VK} {k k' : Bool} (I : Inv X pins σ H s) (q : Q (.bl k) H) (e : k = k') : EP X pins σ Q (.bool k') s := by
  subst e
  exact ⟨.bl k, H, I, rfl, q⟩
theorem op_eq : OpR X (compareOp .Eq) rEq := by
  intro pins s σ H x y v u Q I rx ry h
  obtain ⟨hs, q⟩ := h
  cases x with
  | non =>
    cases rx
    cases y with
    | non => cases ry; exact PySem.EqNone.eq_none_none (fin_bl I q (by simp))
    | bl j => cases ry; exact PySem.EqNone.eq_none_bool (fin_bl I q (by simp))
    | int j => obtain ⟨t', rfl⟩ := ry; exact PySem.EqNone.eq_none_int (fin_bl I q (by simp))
    | str j => obtain ⟨t', rfl⟩ := ry; exact PySem.EqNone.eq_none_str (fin_bl I q (by simp))
    | _ => exact absurd (show false = true from hs) Bool.false_ne_true
  | bl i =>
    cases rx
    cases y with
    | non => cases ry; exact PySem.EqNone.eq_bool_none (fin_bl I q (by simp))
    | bl j => cases ry; exact eq_bool (fin_bl I q dec_bl)
    | str j => obtain ⟨t', rfl⟩ := ry; exact PySem.EqMixed.eq_bool_str (fin_bl I q (by simp))
    | _ => exact absurd (show false = true from hs) Bool.false_ne_true
  | int i =>
    obtain ⟨t, rfl⟩ := rx
    cases y with
    | non => cases ry; exact PySem.EqNone.eq_int_none (fin_bl I q (by simp))
    | int j => obtain ⟨t', rfl⟩ := ry; exact eq_int (fin_bl I q dec_int)
    | str j => obtain ⟨t', rfl⟩ := ry; exact PySem.EqMixed.eq_int_str (fin_bl I q (by simp))
    | _ => exact absurd (show false = true from hs) Bool.false_ne_true
  | str i =>
    obtain ⟨t, rfl⟩ := rx
    cases y with
    | non => cases ry; exact PySem.EqNone.eq_str_none (fin_bl I q (by simp))
    | bl j => cases ry; exact PySem.EqMixed.eq_str_bool (fin_bl I q (by simp))
    | int j => obtain ⟨t', rfl⟩ := ry; exact PySem.EqMixed.eq_str_int (fin_bl I q (by simp))
    | str j => obtain ⟨t', rfl⟩ := ry; exact eq_str (fin_bl I q dec_str)
    | _ => exact absurd (show false = true from hs) Bool.false_ne_true
  | byt i =>
    obtain ⟨t, rfl⟩ := rx
    cases y with
    | byt j => obtain ⟨t', rfl⟩ := ry; exact PySem.W.eq_bytes (fin_bl I q dec_byt)
    | _ => exact absurd (show false = true from hs) Bool.false_ne_true
  | _ => cases y <;> exact absurd (show false = true from hs) Bool.false_ne_true
theorem op_ne : OpR X (compareOp .NotEq) rNe := by
  intro pins s σ H x y v u Q I rx ry h
  obtain ⟨hs, q⟩ := h
  cases x with
  | non =>
    cases rx
    cases y with
    | non => cases ry; exact PySem.EqNone.ne_none_none (fin_bl I q (by simp))
    | bl j => cases ry; exact PySem.EqNone.ne_none_bool (fin_bl I q (by simp))
    | int j => obtain ⟨t', rfl⟩ := ry; exact PySem.EqNone.ne_none_int (fin_bl I q (by simp))
    | str j => obtain ⟨t', rfl⟩ := ry; exact PySem.EqNone.ne_none_str (fin_bl I q (by simp))
    | _ => exact absurd (show false = true from hs) Bool.false_ne_true
  | bl i =>
    cases rx
    cases y with
    | non => cases ry; exact PySem.EqNone.ne_bool_none (fin_bl I q (by simp))
    | bl j => cases ry; exact ne_bool (fin_bl I q (congrArg not dec_bl))
    | str j => obtain ⟨t', rfl⟩ := ry; exact PySem.EqMixed.ne_bool_str (fin_bl I q (by simp))
    | _ => exact absurd (show false = true from hs) Bool.false_ne_true
  | int i =>
    obtain ⟨t, rfl⟩ := rx
    cases y with
    | non => cases ry; exact PySem.EqNone.ne_int_none (fin_bl I q (by simp))
    | int j => obtain ⟨t', rfl⟩ := ry; exact ne_int (fin_bl I q (congrArg not dec_int))
    | str j => obtain ⟨t', rfl⟩ := ry; exact PySem.EqMixed.ne_int_str (fin_bl I q (by simp))
    | _ => exact absurd (show false = true from hs) Bool.false_ne_true
  | str i =>
    obtain ⟨t, rfl⟩ := rx
    cases y with
    | non => cases ry; exact PySem.EqNone.ne_str_none (fin_bl I q (by simp))
    | bl j => cases ry; exact PySem.EqMixed.ne_str_bool (fin_bl I q (by simp))
    | int j => obtain ⟨t', rfl⟩ := ry; exact PySem.EqMixed.ne_str_int (fin_bl I q (by simp))
    | str j => obtain ⟨t', rfl⟩ := ry; exact ne_str (fin_bl I q (congrArg not dec_str))
    | _ => exact absurd (show false = true from hs) Bool.false_ne_true
  | byt i =>
    obtain ⟨t, rfl⟩ := rx
    cases y with
    | byt j => obtain ⟨t', rfl⟩ := ry; exact PySem.W.ne_bytes (fin_bl I q (congrArg not dec_byt))
    | _ => exact absurd (show false = true from hs) Bool.false_ne_true
  | _ => cases y <;> exact absurd (show false = true from hs) Bool.false_ne_true

theorem op_lt : OpR X (compareOp .Lt) (rI0 fun i j => .bl (decide (i < j))) := opB0 fun _ _ _ _ _ _ _ q => lt_int q
theorem op_le : OpR X (compareOp .LtE) (rI0 fun i j => .bl (decide (i ≤ j))) := opB0 fun _ _ _ _ _ _ _ q => le_int q
theorem op_gt : OpR X (compareOp .Gt) (rI0 fun i j => .bl (decide (j < i))) := opB0 fun _ _ _ _ _ _ _ q => gt_int q
theorem op_in_str : OpR X (compareOp .In) (fun x y H Q => ∃ i j, x = .str i ∧ y = .str j ∧ Q (.bl (!(Builtin.Str.occurrences j i 0 j.length 1).isEmpty)) H) := by
  intro pins s σ H x y v u Q I rx ry h
  obtain ⟨i, j, rfl, rfl, q⟩ := h
  obtain ⟨t, rfl⟩ := rx
  obtain ⟨t', rfl⟩ := ry
  exact in_str (fin_bl I q rfl)

theorem op_isN : OpR X (compareOp .Is) (fun x y H Q => y = .non ∧ Q (.bl (decide (x = .non))) H) := by
  intro pins s σ H x y v u Q I rx ry h
  obtain ⟨rfl, q⟩ := h
  cases ry
  refine is_none_gen (fin_bl I q ?_)
  cases x <;> first
    | (cases rx; rfl)
    | (obtain ⟨t, rfl⟩ := rx; rfl)
theorem op_notN : OpR X (compareOp .IsNot) (fun x y H Q => y = .non ∧ Q (.bl (!decide (x = .non))) H) := by
  intro pins s σ H x y v u Q I rx ry h
  obtain ⟨rfl, q⟩ := h
  cases ry
  refine isnot_none_gen (fin_bl I q ?_)
  cases x <;> first
    | (cases rx; rfl)
    | (obtain ⟨t, rfl⟩ := rx; rfl)



theorem nomark (b : Expr) {op : CmpOp} (h : op ≠ .In := by decide) (h2 : op ≠ .NotIn := by decide) : behindInMarks op b = false := by
  have e1 : (op == CmpOp.In) = false := by cases op <;> first | rfl | exact absurd rfl h
  have e2 : (op == CmpOp.NotIn) = false := by cases op <;> first | rfl | exact absurd rfl h2
  cases b <;> simp [behindInMarks, e1, e2]
theorem pe_cmpR {op : CmpOp} {r : R2} (ho : OpR X (compareOp op) r) (ha : PE X a ta) (hb : PE X b tb) (hm : behindInMarks op b = false) : PE X (.Compare a [op] [b] pos) (tOp r ta tb) := by
  intro pins s σ H Q I h
  exact wpAny_Compare1 (binT ha hb I h fun v u s2 x y H2 I2 rx ry q => ho pins s2 σ H2 x y v u Q I2 rx ry q) hm
noncomputable def tTest (t : TE) : TT := fun σ H Q => t σ H fun x H' => IsBl x H' Q
theorem pt_cmpR {op : CmpOp} {r : R2} (ho : OpR X (compareOp op) r) (ha : PE X a ta) (hb : PE X b tb) (hm : behindInMarks op b = false) : PT X (.Compare a [op] [b] pos) (tTest (tOp r ta tb)) := by
  intro pins s σ H Q I h
  refine wpAny_isTrue_Compare1 (thn (ha pins s σ H _ I h) fun v s1 ⟨x, H1, I1, r1, q1⟩ => thn (hb pins s1 σ H1 _ I1 q1) fun u s2 ⟨y, H2, I2, r2, q2⟩ =>
    thn (ho pins s2 σ H2 x y v u _ I2 r1 r2 q2) fun c s3 ⟨z, H3, I3, r3, k, e, q3⟩ => ?_) hm
  subst e
  cases r3
  exact wpAny_truthy_bool ⟨H3, I3, q3⟩
noncomputable def tChain (r r' : R2) (ta tb tc : TE) : TE := fun σ H Q => ta σ H fun x H1 => tb σ H1 fun y H2 => r x y H2 fun z H3 => ∃ k, z = .bl k ∧
  (if k = true then tc σ H3 fun w' H4 => r' y w' H4 Q else Q (.bl false) H3)
theorem pe_chain {op op' : CmpOp} {r r' : R2} (ho : OpR X (compareOp op) r) (ho' : OpR X (compareOp op') r') (ha : PE X a ta) (hb : PE X b tb) (hc : PE X c tc)
    (hm : lastMarks [op, op'] [b, c] = false := by with_unfolding_all rfl) : PE X (.Compare a [op, op'] [b, c] pos) (tChain r r' ta tb tc) := by
  intro pins s σ H Q I h
  refine Compare_chain (thn (ha pins s σ H _ I h) fun v s1 ⟨x, H1, I1, r1, q1⟩ => chain_link (thn (hb pins s1 σ H1 _ I1 q1) fun u s2 ⟨y, H2, I2, r2, q2⟩ =>
    thn (ho pins s2 σ H2 x y v u _ I2 r1 r2 q2) fun d s3 ⟨z, H3, I3, r3, k, e, q3⟩ => ?_)) hm
  subst e
  cases r3
  refine wpAny_truthy_bool ?_
  cases k with
  | false => exact ite_ff ⟨.bl false, H3, I3, rfl, q3⟩
  | true => exact ite_tt (chain_last (thn (hc pins s3 σ H3 _ I3 q3) fun w' s4 ⟨z', H4, I4, r4, q4⟩ => ho' pins s4 σ H4 y z' u w' Q I4 r2 r4 q4))

noncomputable def TruV (K : PySem.W.Frag) (x : V) (H : Hp) (k : Bool) : Prop :=
  match x with
  | .non => k = false
  | .bl b => k = b
  | .int i => k = (i != 0)
  | .str y => y.length ≤ sizeLine ∧ k = ((y.length : Int) != 0)
  | .byt y => y.size ≤ sizeLine ∧ k = ((y.size : Int) != 0)
  | .ref p => (∃ xs, SqL K H p xs ∧ k = !xs.isEmpty) ∨ (∃ xs, SqT K H p xs ∧ k = !xs.isEmpty) ∨ ∃ kvs, H p = some (.dK kvs) ∧ k = !kvs.isEmpty
  | _ => False
theorem isEmpty_kv {κ : Type} {kvs : List (κ × V)} {vs : List (κ × Value)} (r : KV kvs vs) : (!vs.isEmpty) = !kvs.isEmpty := by
  cases r <;> rfl
theorem isEmpty_of {xs : List V} {its : List Value} (r : Vals xs its) : (!its.toArray.isEmpty) = !xs.isEmpty := by
  cases r <;> simp
theorem line63 : (sizeLine : Nat) < 2 ^ 63 := by rw [sizeLine_eq]; decide
theorem tru_ok : TruR X (fun x H Q => ∃ k, TruV X.K x H k ∧ Q k H) := by
  intro pins s σ H x v Q I rx h
  obtain ⟨k, e, q⟩ := h
  have hl := line63
  have hs : sizeLine = 16777216 := sizeLine_eq
  cases x with
  | non =>
    cases rx
    have e' : k = false := e
    subst e'
    exact truthy_none ⟨H, I, q⟩
  | bl b =>
    cases rx
    have e' : k = b := e
    subst e'
    exact wpAny_truthy_bool ⟨H, I, q⟩
  | int i =>
    obtain ⟨t, rfl⟩ := rx
    have e' : k = (i != 0) := e
    subst e'
    exact PySem.P.truthy_int ⟨H, I, q⟩
  | str y =>
    obtain ⟨t, rfl⟩ := rx
    obtain ⟨hy, e'⟩ : y.length ≤ sizeLine ∧ k = ((y.length : Int) != 0) := e
    subst e'
    exact PySem.P.truthy_str (by omega) ⟨H, I.tok _, q⟩
  | byt y =>
    obtain ⟨t, rfl⟩ := rx
    obtain ⟨hy, e'⟩ : y.size ≤ sizeLine ∧ k = ((y.size : Int) != 0) := e
    subst e'
    exact PySem.W.truthy_bytes (by omega) ⟨H, I.tok _, q⟩
  | ref p =>
    cases rx
    have e' : (∃ xs, SqL X.K H p xs ∧ k = !xs.isEmpty) ∨ (∃ xs, SqT X.K H p xs ∧ k = !xs.isEmpty) ∨ ∃ kvs, H p = some (.dK kvs) ∧ k = !kvs.isEmpty := e
    rcases e' with ⟨xs, hx, e'⟩ | ⟨xs, hx, e'⟩ | ⟨kvs, hx, e'⟩
    · subst e'
      obtain ⟨its, r, pl, hz⟩ := I.list hx
      have hlen := r.length
      exact wpAny_truthy_list pl.isList (by simp only [List.size_toArray]; omega) ⟨H, I.tok _, by rw [isEmpty_of r]; exact q⟩
    · subst e'
      obtain ⟨its, r, pl, hz⟩ := I.tuple hx
      have hlen := r.length
      exact truthy_tuple pl (by simp only [List.size_toArray]; omega) ⟨H, I.tok _, by rw [isEmpty_of r]; exact q⟩
    · subst e'
      obtain ⟨hz, hS, vs, r, m⟩ : kvs.length ≤ sizeLine ∧ (p == sysModules) = false ∧ ∃ vs, KV kvs vs ∧ s.heap.DictOf (mixKind X.prog X.w) p vs := I.hok p _ hx
      have hlen : kvs.length = vs.length := Paired.length r
      exact wpAny_truthy_dict hS m (by omega) ⟨H, I.tok _, by rw [isEmpty_kv r]; exact q⟩
  | _ => exact (show False from e).elim
theorem pt_truth (ha : PE X a ta) (he : ∀ whole, isTrue a X.env whole = (do let v ← whole; standAt a.pos; holding [v] (truthy v))) :
    PT X a (fun σ H Q => ta σ H fun x H' => ∃ k, TruV X.K x H' k ∧ Q k H') := by
  intro pins s σ H Q I h
  exact isTrue_plain (thn (ha pins s σ H _ I h) fun v s1 ⟨x, H1, I1, r1, q1⟩ => tru_ok pins s1 σ H1 x v Q I1 r1 q1) (he _)

theorem op_add_str : OpR X (binaryOp .Add) (fun x y H Q => ∃ i j, x = .str i ∧ y = .str j ∧ i.length + j.length ≤ sizeLine ∧ Q (.str (i ++ j)) H) := by
  intro pins s σ H x y v u Q I rx ry h
  obtain ⟨i, j, rfl, rfl, hz, q⟩ := h
  obtain ⟨t, rfl⟩ := rx
  obtain ⟨t', rfl⟩ := ry
  exact add_str (fun t' tk => ⟨.str (i ++ j), H, I.tok _, ⟨_, rfl⟩, q⟩) hz


theorem vals1 {x : V} {us : List Value} (r : Vals [x] us) : ∃ u, us = [u] ∧ RelV x u := by
  cases r with
  | cons r1 r2 => cases r2; exact ⟨_, rfl, r1⟩
theorem vals2 {x y : V} {us : List Value} (r : Vals [x, y] us) : ∃ u w', us = [u, w'] ∧ RelV x u ∧ RelV y w' := by
  cases r with
  | cons r1 r2 =>
    cases r2 with
    | cons r3 r4 => cases r4; exact ⟨_, _, rfl, r1, r3⟩
theorem call_int1 : CallR X (.type "int") (fun xs H Q => (∃ i, xs = [.int i] ∧ Q (.int i) H) ∨ ∃ k, xs = [.bl k] ∧ Q (.int (if k then 1 else 0)) H) := by
  intro pins s σ H xs us Q I r h
  rcases h with ⟨i, rfl, q⟩ | ⟨k, rfl, q⟩
  · obtain ⟨u, rfl, t, rfl⟩ := vals1 r
    exact call_int_int ⟨.int i, H, I, ⟨_, rfl⟩, q⟩
  · obtain ⟨u, rfl, r1⟩ := vals1 r
    cases r1
    exact call_int_bool ⟨.int (if k then 1 else 0), H, I.tok _, ⟨_, rfl⟩, q⟩
end
end L2

namespace L2
open PySem PySem.Spec PyProof.Rows

structure ObjM (h : Heap) (x dx C : Addr) (mA : Str → Option Value) : Prop where
  obj : h.get? x = some (PySem.W.instObj C dx)
  ns : h.Ns1 dx mA
  ne : dx ≠ x

theorem lookIn_ns {h : Heap} {dx : Addr} {mA : Str → Option Value} (n : h.Ns1 dx mA) : ∃ od, h.get? dx = some od ∧ ∀ name, PySem.W.lookIn name od = some (mA name) := by
  obtain ⟨o, es, ep, ho, hd, hk, _, hm⟩ := n
  refine ⟨o, ho, fun name => ?_⟩
  have e := hm name
  unfold nsFind findBy at e
  rw [← Array.find?_toList] at e
  unfold PySem.W.lookIn
  rw [hd]
  dsimp only
  split
  · rename_i y q
    rw [q] at e
    exact congrArg some e
  · rename_i q
    rw [q] at e
    have a : es.toList.any (·.refKey) = false := by
      rw [List.any_eq_false]
      intro y hy
      obtain ⟨z, t, hkey⟩ := hk y (Array.mem_toList_iff.mp hy)
      simp [DictEntry.refKey, hkey]
    have a' : ¬ es.toList.any (·.refKey) = true := by rw [a]; exact Bool.false_ne_true
    rw [if_neg a']
    exact congrArg some e

theorem ObjM.look {h : Heap} {x dx C : Addr} {mA : Str → Option Value} (I : ObjM h x dx C mA) : ∃ od, PySem.W.InstAt h x (PySem.W.instObj C dx) C (some od) ∧ ∀ name, PySem.W.lookIn name od = some (mA name) :=
  let ⟨od, ho, hl⟩ := lookIn_ns I.ns
  ⟨od, ⟨I.obj, rfl, rfl, ho⟩, hl⟩

section
variable {prog : Program} {w : World} {A : Around} {E : Value → Shared → Prop} {s : Shared} {K : PySem.W.Frag} {x dx C f : Addr} {mA : Str → Option Value} {name : Str} {v : Value}

theorem get_map {expr : Bool} {Q : Value → Shared → Prop} (X : K.In s.heap) (I : ObjM s.heap x dx C mA) (hg : PySem.W.plainGet K C name = true) (hh : PySem.W.hasDictIn K C = true)
    (ha : PySem.W.findIn K (.ref C) name = some none) (hv : mA name = some v) (hv' : PySem.W.handedIn v = true) (h : Q v { s with toks := s.toks + 1 }) :
    wpAny (model prog w) A (getAttr (.ref x) name expr) Q E s := by
  obtain ⟨od, J, hl⟩ := I.look
  exact PySem.W.get_value X J (PySem.W.plainGet_of hg).1 (PySem.W.findObj_own hh ha rfl (by rw [hl, hv])) hv' h


theorem get_meth {pl : Sem Bool} {Q : Value × List Value → Shared → Prop} (X : K.In s.heap) (I : ObjM s.heap x dx C mA) (hg : PySem.W.plainGet K C name = true)
    (hf : PySem.W.findIn K (.ref C) name = some (some (.ref f))) (ht : PySem.W.isFn K (.ref f) = true) (hv : mA name = none) (h : Q (.ref f, [.ref x]) s) :
    wpAny (model prog w) A (getMethod (.ref x) name pl) Q E s := by
  obtain ⟨od, J, hl⟩ := I.look
  exact PySem.W.method_fn X J (PySem.W.plainGet_of hg).1 (PySem.W.plainGet_of hg).2 hf (beq_iff_eq.mp ht) (by show (PySem.W.lookIn name od).map (·.isSome) = some false; rw [hl, hv]; rfl) h

theorem set_map {ns : List Str} {Q : Unit → Shared → Prop} (X : K.In s.heap) (I : ObjM s.heap x dx C mA)
    (hs : PySem.W.findIn K (.ref C) "__setattr__" = some (some (.builtin "object.__setattr__"))) (hp : PySem.W.plainOver K C = true) (ht : PySem.W.takerIn K C name = some none) (hh : PySem.W.hasDictIn K C = true)
    (hw : PySem.Within mA ns) (hsz : ns.length ≤ sizeLine)
    (h : ∀ h', ObjM h' x dx C (fun y => if y = name then some v else mA y) → Heap.SameBut dx s.heap h' → Q () { s with heap := h', toks := s.toks + 2 }) :
    wpAny (model prog w) A (setAttr (.ref x) name v) Q E s := by
  obtain ⟨od, J, hl⟩ := I.look
  refine PySem.W.set_plain X J hs (PySem.W.osa_open (s := { s with toks := s.toks + 1 }) (r := none) X J hp ht fun b => ?_)
  obtain ⟨cd, hc, hd'⟩ := PySem.W.any_some hh
  have hx : s.heap.get? x = some ⟨.ref C, some dx, .plain, #[]⟩ := I.obj
  refine wpAny_bind (wpAny_pure (wpAny_bind (wpAny_bind (wpAny_loadPart hx (wpAny_bind (PySem.W.Looks.here (s := { s with toks := s.toks + 1 }) (PySem.W.looks_clsIn X hc) ?_))))))
  rw [hd']
  refine wpAny_pure (a := some dx) (wpAny_bind (wpAny_pure (wpAny_bind ?_)))
  refine wpAny_nsSet1 (s := { s with toks := s.toks + 1 }) I.ns fun h' hn2 hs2 => ?_
  obtain ⟨oD, esD, epD, hoD, hdD, hcD⟩ := hn2.count (PySem.Within.cons name v hw)
  refine wpAny_bind (wpAny_lookBehind hoD (by rw [hdD]; exact pastItsLine_dict (Nat.le_trans hcD (by rw [List.length_cons]; omega))) ?_)
  exact wpAny_pure (h _ ⟨(hs2.2 _ (Ne.symm I.ne)).trans I.obj, hn2, I.ne⟩ hs2)

theorem make_map {R : Result → Shared → Prop} {vs : List Value} {kw : List (Str × Value)} (X : K.In s.heap) (hm : PySem.W.makesIn K C = true)
    (hi : PySem.W.findIn K (.ref C) "__init__" = some (some (.ref f))) (hf : PySem.W.typeIn K (.ref f) = some (.type "function"))
    (h : codeAny (model prog w) (A.under (.builtin "type.__call__" ⟨.ref C :: vs, kw⟩)) (.call (.ref f) ⟨.ref (s.heap.objs.size + 1) :: vs, kw⟩) (PySem.W.InitBack (s.heap.objs.size + 1) R)
      { s with heap := (s.heap.push PySem.W.emptyDict).push (PySem.W.instObj C s.heap.objs.size) }) :
    codeAny (model prog w) A (.call (.ref C) ⟨vs, kw⟩) R s := by
  obtain ⟨hh, g, d, t, os⟩ := s
  exact PySem.W.make_core (PySem.W.makes_of X hm) (PySem.W.looks_findIn X hi) (fun self => PySem.W.bind_fn X self hf) (.inl rfl) h
end

noncomputable def putF (f : Str) (v : V) : List (Str × V) → List (Str × V)
  | [] => [(f, v)]
  | (g, x) :: r => if g = f then (g, v) :: r else (g, x) :: putF f v r
theorem lookup_putF (f g : Str) (v : V) : ∀ fs : List (Str × V), (putF f v fs).lookup g = if g = f then some v else fs.lookup g
  | [] => by
    show List.lookup g [(f, v)] = _
    by_cases h : g = f
    · have hb : (g == f) = true := beq_iff_eq.mpr h
      simp only [List.lookup, hb, if_pos h]
    · have hb : (g == f) = false := beq_eq_false_iff_ne.mpr h
      simp only [List.lookup, hb, if_neg h]
  | (k, x) :: r => by
    have ih := lookup_putF f g v r
    rw [show putF f v ((k, x) :: r) = (if k = f then (k, v) :: r else (k, x) :: putF f v r) from rfl]
    by_cases hk : k = f
    · rw [if_pos hk]
      by_cases h : g = k
      · have hb : (g == k) = true := beq_iff_eq.mpr h
        simp only [List.lookup, hb, if_pos (h.trans hk)]
      · have hb : (g == k) = false := beq_eq_false_iff_ne.mpr h
        simp only [List.lookup, hb, if_neg (fun e : g = f => h (e.trans hk.symm))]
    · rw [if_neg hk]
      by_cases h : g = k
      · have hb : (g == k) = true := beq_iff_eq.mpr h
        simp only [List.lookup, hb, if_neg (fun e : g = f => hk (h.symm.trans e))]
      · have hb : (g == k) = false := beq_eq_false_iff_ne.mpr h
        simp only [List.lookup, hb]
        exact ih
theorem keys_putF (f : Str) (v : V) : ∀ fs : List (Str × V), f ∈ (putF f v fs).map (·.1) ∧ ∀ g, g ∈ fs.map (·.1) → g ∈ (putF f v fs).map (·.1)
  | [] => ⟨by simp [putF], fun g h => by simp at h⟩
  | (k, x) :: r => by
    obtain ⟨i1, i2⟩ := keys_putF f v r
    rw [show putF f v ((k, x) :: r) = (if k = f then (k, v) :: r else (k, x) :: putF f v r) from rfl]
    by_cases hk : k = f
    · rw [if_pos hk]
      subst hk
      exact ⟨by simp, fun g h => by simpa using h⟩
    · rw [if_neg hk]
      refine ⟨?_, fun g h => ?_⟩
      · rw [List.map_cons]
        exact List.mem_cons_of_mem _ i1
      · rw [List.map_cons] at h ⊢
        rcases List.mem_cons.mp h with e | e
        · exact List.mem_cons.mpr (.inl e)
        · exact List.mem_cons_of_mem _ (i2 g e)
theorem length_putF (f : Str) (v : V) : ∀ fs : List (Str × V), (putF f v fs).length ≤ fs.length + 1
  | [] => by simp [putF]
  | (k, x) :: r => by
    have ih := length_putF f v r
    rw [show putF f v ((k, x) :: r) = (if k = f then (k, v) :: r else (k, x) :: putF f v r) from rfl]
    by_cases hk : k = f
    · rw [if_pos hk, List.length_cons, List.length_cons]; omega
    · rw [if_neg hk, List.length_cons, List.length_cons]; omega

theorem RelO.some_of {v : V} {o : Option Value} (r : RelO (some v) o) : ∃ u, o = some u ∧ RelV v u := by
  cases o with
  | none => exact (show False from r).elim
  | some u => exact ⟨u, rfl, r⟩
theorem RelO.none_of {o : Option Value} (r : RelO none o) : o = none := by
  cases o with
  | none => rfl
  | some u => exact (show False from r).elim
theorem handed_of {v : V} {u : Value} (r : RelV v u) : PySem.W.handedIn u = true := by
  cases v with
  | non => cases (show u = Value.none from r); rfl
  | bl b => cases (show u = Value.bool b from r); rfl
  | int i => obtain ⟨t, e⟩ := (show ∃ t, u = Value.int i t from r); cases e; rfl
  | str x => obtain ⟨t, e⟩ := (show ∃ t, u = Value.str x t from r); cases e; rfl
  | byt b => obtain ⟨t, e⟩ := (show ∃ t, u = Value.bytes b t from r); cases e; rfl
  | flt b => obtain ⟨t, e⟩ := (show ∃ t, u = Value.float b t from r); cases e; rfl
  | ref a => cases (show u = Value.ref a from r); rfl
  | ty n => cases (show u = Value.type n from r); rfl

section
variable {P : Program} {w : World} {H H' : Hp} {h h' : Heap} {a C dx : Addr} {fs fs' : List (Str × V)}
theorem ins_get (hok : HOk P w H h) (e : H a = some (.ins C dx fs)) : ∃ mA, ObjM h a dx C mA ∧ (∀ f, RelO (fs.lookup f) (mA f)) ∧ PySem.Within mA (fs.map (·.1)) ∧ fs.length ≤ 1000 ∧ H dx = some (.own a) := by
  obtain ⟨d, z, ne, ob, mA, n, r, q⟩ := (show ObjOk P w H h a (.ins C dx fs) from hok a _ e)
  exact ⟨mA, ⟨ob, n, ne⟩, r, q, z, d⟩
end

structure Cls (K : PySem.W.Frag) (C : Addr) : Prop where
  pg : PySem.W.plainGet K C Str.empty = true
  hd : PySem.W.hasDictIn K C = true
  po : PySem.W.plainOver K C = true
  sa : PySem.W.findIn K (.ref C) "__setattr__" = some (some (.builtin "object.__setattr__"))
theorem Cls.get {K : PySem.W.Frag} {C : Addr} (c : Cls K C) (f : Str) : PySem.W.plainGet K C f = true := c.pg
noncomputable def NoAttr (K : PySem.W.Frag) (C : Addr) (f : Str) : Prop := PySem.W.findIn K (.ref C) f = some none
theorem NoAttr.taker {K : PySem.W.Frag} {C : Addr} {f : Str} (n : NoAttr K C f) : PySem.W.takerIn K C f = some none := by
  unfold PySem.W.takerIn
  rw [show PySem.W.findIn K (.ref C) f = some none from n]
  rfl
structure Meth (K : PySem.W.Frag) (C : Addr) (m : Str) (f : Addr) : Prop where
  at_ : PySem.W.findIn K (.ref C) m = some (some (.ref f))
  fn : PySem.W.isFn K (.ref f) = true
  kp : PySem.W.keepIn K (.ref f) = true

section
variable {X : Cx} {pins : List (Addr × Obj)} {σ : St} {H : Hp} {s : Shared} {a C dx : Addr} {fs : List (Str × V)} {f : Str} {v : V} {A : Around} {E : Value → Shared → Prop}

theorem getattr_ok {b : Bool} {Q : Value → Shared → Prop} (I : Inv X pins σ H s) (e : H a = some (.ins C dx fs)) (c : Cls X.K C) (n : NoAttr X.K C f) (l : fs.lookup f = some v)
    (h : ∀ u s', Inv X pins σ H s' → RelV v u → Q u s') : wpAny (model X.prog X.w) A (getAttr (.ref a) f b) Q E s := by
  obtain ⟨mA, O, r, _, _, _⟩ := ins_get I.hok e
  obtain ⟨u, hu, ru⟩ := RelO.some_of (v := v) (o := mA f) (by rw [← l]; exact r f)
  exact get_map I.kIn O (c.get f) c.hd n hu (handed_of ru) (h u _ (I.tok _) ru)


theorem getmeth_ok {m : Str} {g : Addr} {pl : Sem Bool} {Q : Value × List Value → Shared → Prop} (I : Inv X pins σ H s) (e : H a = some (.ins C dx fs)) (c : Cls X.K C) (k : Meth X.K C m g) (l : fs.lookup m = none)
    (h : Q (.ref g, [.ref a]) s) : wpAny (model X.prog X.w) A (getMethod (.ref a) m pl) Q E s := by
  obtain ⟨mA, O, r, _, _, _⟩ := ins_get I.hok e
  have hn : mA m = none := RelO.none_of (by rw [← l]; exact r m)
  exact get_meth I.kIn O (c.get m) k.at_ k.fn hn h

theorem setattr_ok {y : V} {u : Value} {Q : Unit → Shared → Prop} (I : Inv X pins σ H s) (e : H a = some (.ins C dx fs)) (c : Cls X.K C) (n : NoAttr X.K C f) (hl : fs.length < 1000) (ry : RelV y u)
    (h : ∀ s', Inv X pins σ (upd H a (.ins C dx (putF f y fs))) s' → Q () s') : wpAny (model X.prog X.w) A (setAttr (.ref a) f u) Q E s := by
  obtain ⟨mA, O, r, wi, _, ho⟩ := ins_get I.hok e
  have hz : (fs.map (·.1)).length ≤ sizeLine := by rw [List.length_map, sizeLine_eq]; omega
  refine set_map I.kIn O c.sa c.po n.taker c.hd wi hz fun h' O' sb => h _ ?_
  have hd : ∃ o, h'.get? dx = some o := let ⟨o, _, _, e', _⟩ := O'.ns; ⟨o, e'⟩
  refine I.write (x := a) (e := dx) (by rw [e]; exact True.intro) (.inr ho) (fun b q hb z => (sb.2 b hb).trans z) hd ?_
  refine ⟨by rw [upd_ne O.ne]; exact ho, ?_, O.ne, O'.obj, _, O'.ns, fun g => ?_, fun g hg => ?_⟩
  · have := length_putF f y fs; omega
  · show RelO ((putF f y fs).lookup g) (if g = f then some u else mA g)
    rw [lookup_putF]
    by_cases q : g = f
    · rw [if_pos q, if_pos q]; exact ry
    · rw [if_neg q, if_neg q]; exact r g
  · by_cases q : g = f
    · rw [q]; exact (keys_putF f y fs).1
    · refine (keys_putF f y fs).2 g (wi g fun z => hg ?_)
      show (if g = f then some u else mA g) = none
      rw [if_neg q]; exact z

theorem Inv.made (I : Inv X pins σ H s) : Inv X pins σ (upd (upd H s.heap.objs.size (.own (s.heap.objs.size + 1))) (s.heap.objs.size + 1) (.ins C s.heap.objs.size []))
    { s with heap := (s.heap.push PySem.W.emptyDict).push (PySem.W.instObj C s.heap.objs.size) } := by
  have e1 : (s.heap.push PySem.W.emptyDict).get? s.heap.objs.size = some PySem.W.emptyDict := Heap.get?_push_size s.heap rfl
  have e2 : ((s.heap.push PySem.W.emptyDict).push (PySem.W.instObj C s.heap.objs.size)).get? (s.heap.objs.size + 1) = some (PySem.W.instObj C s.heap.objs.size) := by
    have := Heap.get?_push_size (s.heap.push PySem.W.emptyDict) (o := PySem.W.instObj C s.heap.objs.size) rfl
    rwa [Heap.size_push] at this
  have e3 : (s.heap.push PySem.W.emptyDict).Ns s.heap.objs.size (fun _ => none) := ⟨PySem.W.emptyDict, #[], _, e1, rfl, (fun e he => absurd he (by simp)), fun _ => rfl⟩
  have I1 := I.laid (a := s.heap.objs.size) (o := .own (s.heap.objs.size + 1)) (h' := s.heap.push PySem.W.emptyDict) (t' := s.toks) (fun b u q => Heap.get?_push_of_some _ q) (Nat.le_refl _) ⟨_, e1⟩
  refine I1.laid (a := s.heap.objs.size + 1) (o := .ins C s.heap.objs.size []) (t' := s.toks) (fun b u q => Heap.get?_push_of_some _ q) (Nat.le_of_eq (Heap.size_push _ _)) ?_
  have ne : s.heap.objs.size ≠ s.heap.objs.size + 1 := Nat.ne_of_lt (Nat.lt_succ_self _)
  refine ⟨by rw [upd_ne ne, upd_same], Nat.zero_le _, ne, e2, fun _ => none, (Heap.Ns1.of_empty e3).at fun o q => Heap.get?_push_of_some _ q, fun _ => True.intro, fun y hy => absurd rfl hy⟩

theorem attr_of {prog : Program} {w : World} {env : Env} {e : Expr} {f : Str} {pos : Pos} {s : Shared} {Q : Value → Shared → Prop} (hb : attributeBase e f env (eval e env) = eval e env)
    (h : wpAny (model prog w) A (eval e env) (fun o s₁ => wpAny (model prog w) A (getAttr o f true) Q E s₁) E s) : wpAny (model prog w) A (eval (.Attribute e f pos) env) Q E s :=
  Attribute_any_ h (by rw [arm_eval_Attribute, hb])
end

inductive IsFld (K : PySem.W.Frag) (f : Str) (x : V) (H1 : Hp) (Q : VK) : Prop
  | mk (a C dx : Addr) (fs : List (Str × V)) (v : V) (h1 : x = .ref a) (h2 : H1 a = some (.ins C dx fs)) (h3 : Cls K C) (h4 : NoAttr K C f) (h5 : fs.lookup f = some v) (q : Q v H1)
noncomputable def tFld (K : PySem.W.Frag) (ta : TE) (f : Str) : TE := fun σ H Q => ta σ H fun x H1 => IsFld K f x H1 Q
inductive IsPut (K : PySem.W.Frag) (f : Str) (x y : V) (H2 : Hp) (R : Hp → Prop) : Prop
  | mk (a C dx : Addr) (fs : List (Str × V)) (h1 : x = .ref a) (h2 : H2 a = some (.ins C dx fs)) (h3 : Cls K C) (h4 : NoAttr K C f) (h5 : fs.length < 1000) (q : R (upd H2 a (.ins C dx (putF f y fs))))
noncomputable def sFld (K : PySem.W.Frag) (ta tv : TE) (f : Str) : TS := fun D σ H => tv σ H fun y H1 => ta σ H1 fun x H2 => IsPut K f x y H2 (D.nx σ)

section
variable {X : Cx} {o e value : Expr} {f : Str} {pos pos' tpos : Pos} {ta tv : TE}
theorem pe_fld (he : PE X e ta) (hb : attributeBase e f X.env (eval e X.env) = eval e X.env) : PE X (.Attribute e f pos) (tFld X.K ta f) := by
  intro pins s σ H Q I h
  refine attr_of hb (thn (he pins s σ H _ I h) fun u s1 ⟨x, H1, I1, rx, a, C, dx, fs, v, ex, ea, c, n, l, q⟩ => ?_)
  subst ex
  obtain rfl : u = Value.ref a := rx
  exact getattr_ok I1 ea c n l fun u' s2 I2 ru => ⟨v, H1, I2, ru, q⟩
theorem ps_fld (ha : PE X o ta) (hv : PE X value tv) (hs : swapsWith value (some (.Attribute o f pos')) pos.line X.env = pure false) : PS X (.Assign [.Attribute o f pos'] value pos) (sFld X.K ta tv f) := by
  intro pins s σ H D I h
  refine plainObj_wpAny_Assign_Attribute (thn (hv pins s σ H _ I h) fun u s1 ⟨y, H1, I1, ry, q⟩ => thn (ha pins s1 σ H1 _ I1 q) fun ov s2 ⟨x, H2, I2, rx, a, C, dx, fs, ex, ea, c, n, l, q2⟩ => ?_) hs
  subst ex
  obtain rfl : ov = Value.ref a := rx
  exact setattr_ok I2 ea c n l ry fun s3 I3 => ⟨σ, _, I3, q2⟩

end

section
variable {X : Cx} {pins : List (Addr × Obj)} {σ : St} {H : Hp} {s : Shared} {A : Around} {E : Value → Shared → Prop} {Q : Value → Shared → Prop} {c : Value} {b : Bool}
inductive TyOf (K : PySem.W.Frag) (H : Hp) : V → Value → Prop where
  | non : TyOf K H .non (.type "NoneType")
  | bl (x : Bool) : TyOf K H (.bl x) (.type "bool")
  | int (i : Int) : TyOf K H (.int i) (.type "int")
  | str (x : Str) : TyOf K H (.str x) (.type "str")
  | flt (x : UInt64) : TyOf K H (.flt x) (.type "float")
  | lst {a : Addr} {xs : List V} (e : H a = some (.lst xs)) : TyOf K H (.ref a) (.type "list")
  | frz {a : Addr} {o : Obj} {xs : List V} (e : H a = some (.frz o (.lst xs))) : TyOf K H (.ref a) (.type "list")
  | tup {a : Addr} {xs : List V} (e : H a = some (.tup xs)) : TyOf K H (.ref a) (.type "tuple")
  | dK {a : Addr} {kvs : List (Key × V)} (e : H a = some (.dK kvs)) : TyOf K H (.ref a) (.type "dict")
  | dT {a : Addr} {kvs : List (List Key × V)} (e : H a = some (.dT kvs)) : TyOf K H (.ref a) (.type "dict")
  | ins {a C dx : Addr} {fs : List (Str × V)} (e : H a = some (.ins C dx fs)) (cl : Cls K C) (ha : PySem.W.findIn K (.ref C) "__class__" = some (some (.builtin "object.__class__")))
      (hn : PySem.W.specialIn K (.builtin "object.__class__") "__get__" = some (some (.builtin "getset_descriptor.__get__"))) (htk : PySem.W.takesIn K (.builtin "object.__class__") = some true)
      (hm : PySem.W.mroIn K C (.type "object") = some true) : TyOf K H (.ref a) (.ref C)
theorem isinst_ok {x : V} {u t : Value} (I : Inv X pins σ H s) (rx : RelV x u) (ty : TyOf X.K H x t) (e : PySem.W.kitOne X.K t c = some b) (h : ∀ tk, Q (.bool b) { s with toks := tk }) :
    wpAny (model X.prog X.w) A (call (.builtin "isinstance") [u, c]) Q E s := by
  cases ty with
  | non => cases (show u = Value.none from rx); exact PySem.W.kia_one PySem.W.kitx_none I.kIn True.intro e (fun z => nomatch z) h
  | bl y => cases (show u = Value.bool y from rx); exact PySem.W.kia_one PySem.W.kitx_bool I.kIn True.intro e (fun z => nomatch z) h
  | int i => obtain ⟨t, q⟩ := (show ∃ t, u = Value.int i t from rx); cases q; exact PySem.W.kia_one PySem.W.kitx_int I.kIn True.intro e (fun z => nomatch z) h
  | str y => obtain ⟨t, q⟩ := (show ∃ t, u = Value.str y t from rx); cases q; exact PySem.W.kia_one PySem.W.kitx_str I.kIn True.intro e (fun z => nomatch z) h
  | flt y => obtain ⟨t, q⟩ := (show ∃ t, u = Value.float y t from rx); cases q; exact PySem.W.kia_one PySem.W.kitx_float I.kIn True.intro e (fun z => nomatch z) h
  | @lst a xs ea =>
    cases (show u = Value.ref a from rx)
    obtain ⟨_, _, n, _, h1⟩ := (show ObjOk X.prog X.w H s.heap a (.lst xs) from I.hok a _ ea)
    exact PySem.W.kia_one PySem.W.kitx_list I.kIn ⟨_, h1, rfl⟩ e (fun z => nomatch z) h
  | @frz a ob xs ea =>
    cases (show u = Value.ref a from rx)
    obtain ⟨_, _, _, n, _, h1⟩ := (show ObjOk X.prog X.w H s.heap a (.frz ob (.lst xs)) from I.hok a _ ea)
    exact PySem.W.kia_one PySem.W.kitx_list I.kIn ⟨_, h1, rfl⟩ e (fun z => nomatch z) h
  | @tup a xs ea =>
    cases (show u = Value.ref a from rx)
    obtain ⟨_, _, _, p⟩ := (show ObjOk X.prog X.w H s.heap a (.tup xs) from I.hok a _ ea)
    obtain ⟨o, h1, h2, _⟩ := p
    exact PySem.W.kia_one PySem.W.kitx_tuple I.kIn ⟨o, h1, h2⟩ e (fun z => nomatch z) h
  | @dK a kvs ea =>
    cases (show u = Value.ref a from rx)
    obtain ⟨_, _, vs, _, p⟩ := (show ObjOk X.prog X.w H s.heap a (.dK kvs) from I.hok a _ ea)
    obtain ⟨o, es, ep, h1, h2, _⟩ := p
    exact PySem.W.kia_one PySem.W.kitx_dict I.kIn ⟨o, h1, h2.1⟩ e (fun z => nomatch z) h
  | @dT a kvs ea =>
    cases (show u = Value.ref a from rx)
    obtain ⟨_, _, xs, _, o, es, ep, h1, h2, _⟩ := (show ObjOk X.prog X.w H s.heap a (.dT kvs) from I.hok a _ ea)
    exact PySem.W.kia_one PySem.W.kitx_dict I.kIn ⟨o, h1, h2.1⟩ e (fun z => nomatch z) h
  | @ins a C dx fs ea cl ha hn htk hm =>
    cases (show u = Value.ref a from rx)
    obtain ⟨mA, O, _⟩ := ins_get I.hok ea
    obtain ⟨od, J, _⟩ := O.look
    exact PySem.W.kia_one (PySem.W.kitx_own (cl.get _) cl.hd ha hn htk hm) I.kIn J e (fun z => nomatch z) h
end
end L2

namespace L2
open PySem PySem.Spec PyProof.Rows

structure Room (k : Nat) (A : Around) : Prop where
  hd : A.handled = none
  dp : A.depth + 3 * k + 5 < recursionLimit
  un : A.units + 16 * k + 200 < cLine
theorem Room.mono {j k : Nat} {A : Around} (r : Room k A) (h : j ≤ k) : Room j A := ⟨r.hd, by have := r.dp; omega, by have := r.un; omega⟩
theorem Room.deeper {k : Nat} {A : Around} (r : Room (k + 1) A) (env : Env) : Room k (A.deeper env) :=
  ⟨r.hd, by have := r.dp; show A.depth + 1 + 3 * k + 5 < _; omega, by have := r.un; show A.units + 3 + 16 * k + 200 < _; omega⟩
theorem make_depth {A : Around} {C : Addr} {us : List Value} {kw : List (Str × Value)} : (A.under (.builtin "type.__call__" ⟨.ref C :: us, kw⟩)).depth = A.depth + 1 := by
  first | rfl | simp [Around.under, Code.weight, Code.isCreation, Code.isGuard, Code.isCaller, Code.frames, Code.isFrame, guardIds]
theorem make_units {A : Around} {C : Addr} {us : List Value} {kw : List (Str × Value)} : (A.under (.builtin "type.__call__" ⟨.ref C :: us, kw⟩)).units = A.units + 1 := by
  first | rfl | simp [Around.under, Code.cUnits, Code.frames, Code.isFrame]
theorem Room.make {k : Nat} {A : Around} (r : Room (k + 1) A) (C : Addr) (us : List Value) (kw : List (Str × Value)) : Room k (A.under (.builtin "type.__call__" ⟨.ref C :: us, kw⟩)) :=
  ⟨r.hd, by have := r.dp; rw [make_depth]; omega, by have := r.un; rw [make_units]; omega⟩
theorem Room.depth {k : Nat} {A : Around} (r : Room k A) : A.depth < recursionLimit := by have := r.dp; omega
theorem Room.units {k : Nat} {A : Around} (r : Room k A) : A.units + 64 < cLine := by have := r.un; omega

noncomputable def tNil : TA := fun _ H Q => Q [] H
noncomputable def tCons (ta : TE) (tr : TA) : TA := fun σ H Q => ta σ H fun x H1 => tr σ H1 fun xs H2 => Q (x :: xs) H2
section
variable {X : Cx} {e : Expr} {es : List Expr} {te : TE} {t : TA} {pos : Pos}
theorem pa_nil : PA X [] tNil := fun _ _ _ _ H Q I h => Calls.spliced_nil ⟨[], H, I, .nil, h⟩
theorem pa_cons (ha : PE X e te) (hr : PA X es t) (hs : starEach (e :: es) X.env = (false, eval e X.env) :: starEach es X.env := by rfl) : PA X (e :: es) (tCons te t) := by
  intro pos pins s σ H Q I h
  rw [hs]
  show wpAny _ _ (spliced ((false, eval e X.env) :: backTo pos (starEach es X.env))) _ _ s
  refine Calls.spliced_cons (thn (ha pins s σ H _ I h) fun u s1 ⟨x, H1, I1, r1, q1⟩ => ?_)
  exact thn (hr pos pins s1 σ H1 _ I1 q1) fun us s2 ⟨xs, H2, I2, r2, q2⟩ => ⟨x :: xs, H2, I2, .cons r1 r2, q2⟩

noncomputable def tTup (t : TA) : TE := fun σ H Q => t σ H fun xs H1 => xs.length ≤ sizeLine ∧ ∀ p, H1 p = none → Q (.ref p) (upd H1 p (.tup xs))
noncomputable def tLst (t : TA) : TE := fun σ H Q => t σ H fun xs H1 => xs.length ≤ sizeLine ∧ ∀ p, H1 p = none → Q (.ref p) (upd H1 p (.lst xs))
theorem pe_tup {x1} (h : PA X es t) : PE X (.Tuple es x1 pos) (tTup t) := by
  intro pins s σ H Q I hq
  refine wpAny_Tuple_spliced (thn (h pos pins s σ H _ I hq) fun us s1 ⟨xs, H1, I1, r, z, q⟩ => ⟨by rw [← r.length]; exact z, ?_⟩)
  have hf : H1 s1.heap.objs.size = none := I1.hok.fresh (Nat.le_refl _)
  refine ⟨.ref s1.heap.objs.size, upd H1 s1.heap.objs.size (.tup xs), I1.laid (t' := s1.toks) (fun b u e => Heap.get?_push_of_some _ e) (Nat.le_refl _) ?_, rfl, q _ hf⟩
  exact ⟨z, us, r, ⟨_, Heap.get?_push_size _ rfl, rfl, _, rfl⟩⟩
theorem pe_lst (h : PA X es t) : PE X (.List es pos) (tLst t) := by
  intro pins s σ H Q I hq
  refine wpAny_List_spliced (thn (h pos pins s σ H _ I hq) fun us s1 ⟨xs, H1, I1, r, z, q⟩ => ⟨by rw [← r.length]; exact z, ?_⟩)
  have hf : H1 s1.heap.objs.size = none := I1.hok.fresh (Nat.le_refl _)
  refine ⟨.ref s1.heap.objs.size, upd H1 s1.heap.objs.size (.lst xs), I1.laid (t' := s1.toks) (fun b u e => Heap.get?_push_of_some _ e) (Nat.le_refl _) ?_, rfl, q _ hf⟩
  exact ⟨z, us, 0, r, Heap.get?_push_size _ rfl⟩
end

noncomputable abbrev Sp := List V → Hp → VK → XK → Prop
noncomputable abbrev CXT := List Env → Hp → Shared → XK → Value → Shared → Prop

structure Env0 (P : Program) (w : World) (K : PySem.W.Frag) (mg : Str → Option Value) (base : Heap) (A : Around) (outer : List Env) (s : Shared) (H : Hp) : Prop where
  frames : A.frames = some outer
  mod : Mod K mg base
  bs : ∀ b o, base.get? b = some o → s.heap.get? b = some o ∧ H b = none
  bsz : base.objs.size ≤ s.heap.objs.size
  funs : s.heap.FunFrames base outer
  frf : ∀ b ∈ frs outer, H b = none
  hok : HOk P w H s.heap
  bare : AllBare s.gens
inductive CE (outer : List Env) (P : Program) (w : World) (H : Hp) (s : Shared) (Q : VK) (u : Value) (s' : Shared) : Prop
  | mk (v : _) (H' : _) (h0_ : s'.os = s.os) (h1_ : AllBare s'.gens) (h2_ : Un (frs outer) [] H H' s.heap s'.heap) (h3_ : HOk P w H' s'.heap) (h4_ : RelV v u) (h5_ : Q v H')
noncomputable def CR (CX : CXT) (outer : List Env) (P : Program) (w : World) (H : Hp) (s : Shared) (Q : VK) (E : XK) (r : Result) (s' : Shared) : Prop :=
  match r with
  | .ok (.ret u) => CE outer P w H s Q u s'
  | .ok _ => False
  | .error e => CX outer H s E e s'
structure FnOk (P : Program) (w : World) (K : PySem.W.Frag) (mg : Str → Option Value) (base : Heap) (CX : CXT) (k : Nat) (f : Addr) (fd : FuncData) (ps : List Str) (sp : Sp) : Prop where
  len : ∀ vs H Q E, sp vs H Q E → vs.length = ps.length
  run : ∀ (A : Around) (outer : List Env) (s : Shared) (H : Hp) (args : Args) (us : List Value) (vs : List V) (Q : VK) (E : XK), Room k A → Env0 P w K mg base A outer s H → BindsTo s fd args (ps.zip us) → Vals vs us → sp vs H Q E →
    codeAny (model P w) A (.call (.ref f) args) (CR CX outer P w H s Q E) s

theorem Env0.make {P : Program} {w : World} {K : PySem.W.Frag} {mg : Str → Option Value} {base : Heap} {A : Around} {outer : List Env} {s : Shared} {H : Hp} (e : Env0 P w K mg base A outer s H) (C : Addr) (us : List Value) (kw : List (Str × Value)) :
    Env0 P w K mg base (A.under (.builtin "type.__call__" ⟨.ref C :: us, kw⟩)) outer s H := ⟨by first | exact e.frames | (simpa [Around.under, Code.envs, Code.isFrame, pushEnvs] using e.frames), e.mod, e.bs, e.bsz, e.funs, e.frf, e.hok, e.bare⟩

section
variable {X : Cx} {pins : List (Addr × Obj)} {σ : St} {H : Hp} {s s' : Shared}
theorem Inv.env0 (I : Inv X pins σ H s) : Env0 X.prog X.w X.K X.mg X.base X.A X.stack s H :=
  ⟨I.ok.frames, I.ok.mod, I.bs, Nat.le_trans I.ok.bsz I.sz, I.stack, I.stkFree, I.hok, I.bare⟩
theorem Inv.after {Q : VK} {u : Value} (I : Inv X pins σ H s) (h : CE X.stack X.prog X.w H s Q u s') : EP X pins σ Q u s' := by
  obtain ⟨v, H', os, bare, un, hok, r, q⟩ := h
  obtain ⟨hh, g, d, t, os'⟩ := s'
  obtain rfl : os' = s.os := os
  exact ⟨v, H', I.call (h' := hh) (g' := g) (d' := d) (t' := t) (ch := []) un hok bare (fun b z => absurd z (by simp)), r, q⟩
end

noncomputable def tCall (sp : Sp) (dvs : List V) (E : XK) (t : TA) : TE := fun σ H Q => t σ H fun vs H1 => sp (vs ++ dvs) H1 Q E
inductive IsMeth (C : Addr) (m : Str) (x : V) (H1 : Hp) (R : Prop) : Prop
  | mk (a dx : Addr) (fs : List (Str × V)) (h1 : x = .ref a) (h2 : H1 a = some (.ins C dx fs)) (h3 : fs.lookup m = none) (r : R)
noncomputable def tMeth (C : Addr) (m : Str) (sp : Sp) (dvs : List V) (E : XK) (ta : TE) (t : TA) : TE := fun σ H Q => ta σ H fun x H1 => IsMeth C m x H1 (t σ H1 fun vs H2 => sp (x :: (vs ++ dvs)) H2 Q E)
noncomputable def tMake (C : Addr) (sp : Sp) (dvs : List V) (E : XK) (t : TA) : TE := fun σ H Q => t σ H fun vs H1 => ∀ x dx, H1 x = none → H1 dx = none → dx ≠ x →
  sp (.ref x :: (vs ++ dvs)) (upd (upd H1 dx (.own x)) x (.ins C dx [])) (fun v H2 => v = .non ∧ Q (.ref x) H2) E

noncomputable def Binds (K : PySem.W.Frag) (fd : FuncData) (ps : List Str) (ds : List Value) : Prop :=
  ∀ (s : Shared) (us : List Value), K.In s.heap → (us ++ ds).length = ps.length → BindsTo s fd ⟨us, []⟩ (ps.zip (us ++ ds))
theorem Binds.all {K : PySem.W.Frag} {fd : FuncData} {ps : List Str} (h : ∀ us : List Value, us.length = ps.length → bindArgs fd ⟨us, []⟩ = pure (ps.zip us)) : Binds K fd ps [] := fun s us _ hl => by
  rw [List.append_nil] at hl ⊢
  exact .of_eq (h us hl)

noncomputable def Passes (CX : CXT) (X : Cx) (E : XK) : Prop := ∀ (pins : List (Addr × Obj)) (σ : St) (H : Hp) (s : Shared) (e : Value) (s' : Shared), Inv X pins σ H s → CX X.stack H s E e s' → X.xe e s'

section
variable {X : Cx} {CX : CXT} {k : Nat} {f C : Addr} {fd : FuncData} {ps : List Str} {sp : Sp} {dvs : List V} {ds : List Value} {E : XK} {x m : Str} {p pos apos : Pos} {e o : Expr} {es : List Expr} {ta : TE} {t : TA}

theorem run_fn {pins : List (Addr × Obj)} {σ : St} {H : Hp} {s : Shared} {Q : VK} {us : List Value} {vs : List V} (F : FnOk X.prog X.w X.K X.mg X.base CX k f fd ps sp) (hr : Room k X.A) (hb : Binds X.K fd ps ds) (hd : Vals dvs ds) (hx : Passes CX X E)
    (I : Inv X pins σ H s) (r : Vals vs us) (h : sp (vs ++ dvs) H Q E) : wpAny (model X.prog X.w) X.A (call (.ref f) us) (EP X pins σ Q) X.xe s := by
  have r2 : Vals (vs ++ dvs) (us ++ ds) := r.append hd
  have hl : (us ++ ds).length = ps.length := by rw [← r2.length]; exact F.len _ _ _ _ h
  refine wpAny_call (codeAny_mono (F.run X.A X.stack s H ⟨us, []⟩ (us ++ ds) (vs ++ dvs) Q E hr I.env0 (hb s us I.kIn hl) r2 h) fun r s' hq => ?_)
  cases r with
  | error e => exact hx pins σ H s e s' I hq
  | ok fl =>
    cases fl with
    | ret u => exact I.after hq
    | next => exact False.elim hq
    | brk => exact False.elim hq
    | cont => exact False.elim hq

theorem pe_call (F : FnOk X.prog X.w X.K X.mg X.base CX k f fd ps sp) (hr : Room k X.A) (hg : Gl X x) (hm : X.mg x = some (.ref f)) (hk : PySem.W.keepIn X.K (.ref f) = true) (hb : Binds X.K fd ps ds) (hd : Vals dvs ds) (hx : Passes CX X E)
    (ha : PA X (e :: es) t) (hdb : (x == ("__debug__" : Str)) = false := by decide) (he : starEach (e :: es) X.env = (false, eval e X.env) :: starEach es X.env := by rfl) (hpl : (backTo pos (starEach es X.env)).any (·.1) = false := by rfl) :
    PE X (.Call (.Name x p) (e :: es) [] pos) (tCall sp dvs E t) := by
  intro pins s σ H Q I h
  refine wpAny_Call_Name_kw (ld_glob I hg hm ?_ hdb)
  refine PySem.W.callWith_K (h₀ := X.base) I.ok.mod.kin hk (thn (ha pos pins s σ H _ I h) fun us s1 ⟨vs, H1, I1, r, q⟩ => ⟨I1.kIn, ?_⟩) he hpl
  exact run_fn F hr hb hd hx I1 r q

theorem pe_meth {pl : Sem Bool} (he : PE X o ta) (c : Cls X.K C) (hm : Meth X.K C m f) (F : FnOk X.prog X.w X.K X.mg X.base CX k f fd ps sp) (hr : Room k X.A) (hb : Binds X.K fd ps ds) (hd : Vals dvs ds) (hx : Passes CX X E) (ha : PA X (e :: es) t)
    (hst : starEach (e :: es) X.env = (false, eval e X.env) :: starEach es X.env := by rfl) (hpl : (backTo pos (starEach es X.env)).any (·.1) = false := by rfl)
    (ht : eval (.Call (.Attribute o m apos) (e :: es) [] pos) X.env = (do
      let ov ← eval o X.env
      standAt apos.atName
      let (f, first) ← holding [ov] (getMethod ov m pl)
      callWith pos f first (backTo pos (starEach (e :: es) X.env)) (backToKw pos (keywordEach [] X.env))) := by rfl) :
    PE X (.Call (.Attribute o m apos) (e :: es) [] pos) (tMeth C m sp dvs E ta t) := by
  intro pins s σ H Q I h
  refine PySem.W.methodCall_KW (pl := pl) (thn (he pins s σ H _ I h) fun u s1 ⟨x, H1, I1, rx, a, dx, fs, ex, ea, l, q⟩ => ?_) ht
  subst ex
  obtain rfl : u = Value.ref a := rx
  refine getmeth_ok I1 ea c hm l ?_
  refine PySem.W.callWith_K (first := [.ref a]) (h₀ := X.base) I.ok.mod.kin hm.kp (thn (ha pos pins s1 σ H1 _ I1 q) fun us s2 ⟨vs, H2, I2, r, q2⟩ => ⟨I2.kIn, ?_⟩) hst hpl
  exact run_fn (us := .ref a :: us) (vs := .ref a :: vs) F hr hb hd hx I2 (.cons rfl r) q2
theorem pe_meth0 {pl : Sem Bool} (he : PE X o ta) (c : Cls X.K C) (hm : Meth X.K C m f) (F : FnOk X.prog X.w X.K X.mg X.base CX k f fd ps sp) (hr : Room k X.A) (hb : Binds X.K fd ps ds) (hd : Vals dvs ds) (hx : Passes CX X E)
    (ht : eval (.Call (.Attribute o m apos) [] [] pos) X.env = (do
      let ov ← eval o X.env
      standAt apos.atName
      let (f, first) ← holding [ov] (getMethod ov m pl)
      callWith pos f first (backTo pos (starEach [] X.env)) (backToKw pos (keywordEach [] X.env))) := by rfl) :
    PE X (.Call (.Attribute o m apos) [] [] pos) (tMeth C m sp dvs E ta tNil) := by
  intro pins s σ H Q I h
  refine PySem.W.methodCall_KW (pl := pl) (thn (he pins s σ H _ I h) fun u s1 ⟨x, H1, I1, rx, a, dx, fs, ex, ea, l, q⟩ => ?_) ht
  subst ex
  obtain rfl : u = Value.ref a := rx
  refine getmeth_ok I1 ea c hm l ?_
  exact PySem.W.callWith_K0 (first := [.ref a]) I1.kIn hm.kp (run_fn (us := [.ref a]) (vs := [.ref a]) F hr hb hd hx I1 (.cons rfl .nil) q)

structure Mk (K : PySem.W.Frag) (C f : Addr) : Prop where
  makes : PySem.W.makesIn K C = true
  init : PySem.W.findIn K (.ref C) "__init__" = some (some (.ref f))
  fn : PySem.W.isFn K (.ref f) = true
  kp : PySem.W.keepIn K (.ref C) = true

theorem run_make {pins : List (Addr × Obj)} {σ : St} {H : Hp} {s : Shared} {Q : VK} {us : List Value} {vs : List V} (M : Mk X.K C f) (F : FnOk X.prog X.w X.K X.mg X.base CX k f fd ps sp) (hr : Room (k + 1) X.A) (hb : Binds X.K fd ps ds) (hd : Vals dvs ds)
    (hx : Passes CX X E) (I : Inv X pins σ H s) (r : Vals vs us)
    (h : ∀ x dx, H x = none → H dx = none → dx ≠ x → sp (.ref x :: (vs ++ dvs)) (upd (upd H dx (.own x)) x (.ins C dx [])) (fun v H2 => v = .non ∧ Q (.ref x) H2) E) :
    wpAny (model X.prog X.w) X.A (call (.ref C) us) (EP X pins σ Q) X.xe s := by
  have hq := h (s.heap.objs.size + 1) s.heap.objs.size (I.hok.fresh (Nat.le_succ _)) (I.hok.fresh (Nat.le_refl _)) (Nat.ne_of_lt (Nat.lt_succ_self _))
  have I2 := Inv.made (C := C) I
  have r2 : Vals (V.ref (s.heap.objs.size + 1) :: (vs ++ dvs)) (Value.ref (s.heap.objs.size + 1) :: (us ++ ds)) := .cons rfl (r.append hd)
  have hl : (Value.ref (s.heap.objs.size + 1) :: us ++ ds).length = ps.length := by
    have e := r2.length
    rw [F.len _ _ _ _ hq] at e
    exact e.symm
  refine wpAny_call (make_map (f := f) I.kIn M.makes M.init (beq_iff_eq.mp M.fn) (codeAny_mono (F.run _ X.stack _ _ ⟨Value.ref (s.heap.objs.size + 1) :: us, []⟩ (Value.ref (s.heap.objs.size + 1) :: (us ++ ds)) _ _ E (hr.make C us [])
    (I2.env0.make C us []) (hb _ (Value.ref (s.heap.objs.size + 1) :: us) I2.kIn hl) r2 hq) fun r s' hq' => ?_))
  cases r with
  | error e => exact hx pins σ _ _ e s' I2 hq'
  | ok fl =>
    cases fl with
    | ret u =>
      obtain ⟨v, H', I3, rv, ev, q3⟩ := I2.after hq'
      subst ev
      exact ⟨rv, ⟨V.ref (s.heap.objs.size + 1), H', I3, rfl, q3⟩⟩
    | next => exact False.elim hq'
    | brk => exact False.elim hq'
    | cont => exact False.elim hq'
theorem pe_make (M : Mk X.K C f) (F : FnOk X.prog X.w X.K X.mg X.base CX k f fd ps sp) (hr : Room (k + 1) X.A) (hg : Gl X x) (hm : X.mg x = some (.ref C)) (hb : Binds X.K fd ps ds) (hd : Vals dvs ds) (hx : Passes CX X E)
    (ha : PA X (e :: es) t) (hdb : (x == ("__debug__" : Str)) = false := by decide) (he : starEach (e :: es) X.env = (false, eval e X.env) :: starEach es X.env := by rfl) (hpl : (backTo pos (starEach es X.env)).any (·.1) = false := by rfl) :
    PE X (.Call (.Name x p) (e :: es) [] pos) (tMake C sp dvs E t) := by
  intro pins s σ H Q I h
  refine wpAny_Call_Name_kw (ld_glob I hg hm ?_ hdb)
  refine PySem.W.callWith_K (h₀ := X.base) I.ok.mod.kin M.kp (thn (ha pos pins s σ H _ I h) fun us s1 ⟨vs, H1, I1, r, q⟩ => ⟨I1.kIn, ?_⟩) he hpl
  exact run_make M F hr hb hd hx I1 r q
end

section
variable {X : Cx} {CX : CXT} {k : Nat} {f C : Addr} {fd : FuncData} {ps ks : List Str} {sp : Sp} {E : XK} {x m : Str} {p pos apos kpos : Pos} {e o : Expr} {es : List Expr} {kws : List Keyword} {te ta : TE} {t tk : TA} {nm : Option Str}

variable {g : List Value → List Value → List Value} {gV : List V → List V → List V}
end

structure FnScope (N P : List Str) (sc : Scope) : Prop where
  kind : sc.kind = .function
  co : sc.isCoroutine = false
  gen : sc.isGenerator = false
  nd : N.Nodup
  pre : N.take P.length = P
  par : ∀ x ∈ P, sc.names.lookup x = some .local ∨ sc.names.lookup x = some .cell
  nofree : ∀ y ∈ sc.names, y.2 ≠ .free

theorem bindL_out {kindOf : Str → Option NameKind} {x : Str} : ∀ {binds : List (Str × Value)} {m : Str → Option Value}, (∀ v, (x, v) ∉ binds) → bindL kindOf binds m x = m x
  | [], _, _ => rfl
  | (n, v) :: r, m, h => by
    unfold bindL
    rw [bindL_out fun w hw => h w (List.mem_cons_of_mem _ hw)]
    split
    · have : x ≠ n := by rintro rfl; exact h v List.mem_cons_self
      simp [this]
    · rfl
theorem bindC_out {kindOf : Str → Option NameKind} {x : Str} : ∀ {binds : List (Str × Value)} {m : Str → Option Value}, (∀ v, (x, v) ∉ binds) → bindC kindOf binds m x = m x
  | [], _, _ => rfl
  | (n, v) :: r, m, h => by
    unfold bindC
    rw [bindC_out fun w hw => h w (List.mem_cons_of_mem _ hw)]
    split
    · rfl
    · have : x ≠ n := by rintro rfl; exact h v List.mem_cons_self
      simp [this]
theorem bindL_get {kindOf : Str → Option NameKind} {x : Str} {v : Value} : ∀ {P : List Str} {vs : List Value} {i : Nat} {m : Str → Option Value}, P.Nodup → P[i]? = some x → vs[i]? = some v → kindOf x = some .local →
    bindL kindOf (P.zip vs) m x = some v
  | [], _, _, _, _, h, _, _ => by simp at h
  | _ :: _, [], _, _, _, _, h, _ => by simp at h
  | p :: P, w :: vs, 0, m, nd, h1, h2, hk => by
    simp at h1 h2; subst h1; subst h2
    show bindL kindOf ((p, w) :: P.zip vs) m p = _
    unfold bindL
    rw [bindL_out fun v hv => (List.nodup_cons.mp nd).1 (List.of_mem_zip hv).1, if_pos hk]
    simp
  | p :: P, w :: vs, i + 1, m, nd, h1, h2, hk => by
    show bindL kindOf ((p, w) :: P.zip vs) m x = _
    unfold bindL
    exact bindL_get (i := i) (List.nodup_cons.mp nd).2 (by simpa using h1) (by simpa using h2) hk
theorem bindC_get {kindOf : Str → Option NameKind} {x : Str} {v : Value} : ∀ {P : List Str} {vs : List Value} {i : Nat} {m : Str → Option Value}, P.Nodup → P[i]? = some x → vs[i]? = some v → kindOf x ≠ some .local →
    bindC kindOf (P.zip vs) m x = some v
  | [], _, _, _, _, h, _, _ => by simp at h
  | _ :: _, [], _, _, _, _, h, _ => by simp at h
  | p :: P, w :: vs, 0, m, nd, h1, h2, hk => by
    simp at h1 h2; subst h1; subst h2
    show bindC kindOf ((p, w) :: P.zip vs) m p = _
    unfold bindC
    rw [bindC_out fun v hv => (List.nodup_cons.mp nd).1 (List.of_mem_zip hv).1, if_neg hk]
    simp
  | p :: P, w :: vs, i + 1, m, nd, h1, h2, hk => by
    show bindC kindOf ((p, w) :: P.zip vs) m x = _
    unfold bindC
    exact bindC_get (i := i) (List.nodup_cons.mp nd).2 (by simpa using h1) (by simpa using h2) hk

noncomputable def start (N : List Str) (vs : List V) : St := vs.map some ++ List.replicate (N.length - vs.length) none

noncomputable def cxOf (CX : CXT) (P : Program) (w : World) (K : PySem.W.Frag) (mg : Str → Option Value) (base : Heap) (N : List Str) (qual : Str) (scope : Scope) (f : Addr) (cd : Value) (A : Around) (outer : List Env) (s : Shared) (H : Hp) (E : XK) : Cx where
  prog := P
  w := w
  K := K
  mg := mg
  base := base
  A := A.deeper (envOfC qual scope s.heap.objs.size f cd)
  N := N
  s₀ := s
  H₀ := H
  env := envOfC qual scope s.heap.objs.size f cd
  outer := outer
  stack := envOfC qual scope s.heap.objs.size f cd :: outer
  ex := []
  calm := true
  fn := fun _ => true
  pn := []
  xe := fun e s' => wpAny (model P w) (A.deeper (envOfC qual scope s.heap.objs.size f cd)) (leaving (envOfC qual scope s.heap.objs.size f cd) e) (fun _ s'' => CX outer H s E e s'') (fun e' s'' => CX outer H s E e' s'') s'

theorem cell_has {sc : Scope} {n : Nat} {x : Str} (h : sc.names.lookup x = some .cell) : ∃ c, (cellsFrom n sc.names []).lookup x = some c := by
  have q := PySem.W.cellsFrom_some sc.names n [] (.inl h)
  exact Option.isSome_iff_exists.mp q

theorem inv_start {CX : CXT} {P : Program} {w : World} {K : PySem.W.Frag} {mg : Str → Option Value} {base : Heap} {N ps : List Str} {qual : Str} {scope : Scope} {f : Addr} {cd : Value} {A : Around} {outer : List Env} {s s1 : Shared} {H : Hp} {E : XK} {us : List Value} {vs : List V}
    (S : FnScope N ps scope) (hd : A.handled = none) (e0 : Env0 P w K mg base A outer s H) (hl : vs.length = ps.length) (r : Vals vs us)
    (x : InCallC s s.heap.objs.size (bindL (envOfC qual scope s.heap.objs.size f cd).kindOf (ps.zip us) fun _ => none) (cellsFrom (s.heap.objs.size + 1) scope.names []) (bindC (envOfC qual scope s.heap.objs.size f cd).kindOf (ps.zip us) fun _ => none) s1) :
    Inv (cxOf CX P w K mg base N qual scope f cd A outer s H E) [] (start N vs) H s1 := by
  have hpl : ps.length ≤ N.length := by have := congrArg List.length S.pre; rw [List.length_take] at this; omega
  obtain ⟨h1, tk, rfl, hk⟩ := x.done
  have noA : ∀ b : Addr, b ∉ (cxOf CX P w K mg base N qual scope f cd A outer s H E).ex := fun b z => absurd (show b ∈ ([] : List Addr) from z) (by simp)
  refine ⟨⟨e0.mod, S.kind, rfl, rfl, Nat.le_refl _, fun y z c h1 h2 => ?_, fun y hy => ?_, fun y c _ h => ?_, fun _ => hd, Around.frames_deeper e0.frames, .inr ⟨rfl, rfl⟩, fun b z => absurd z (noA b), e0.bs, e0.bsz, fun b _ _ => noA b, fun b z => absurd z (noA b), e0.funs, e0.frf⟩,
    rfl, e0.bare, Un.kept hk, ⟨_, x.toInCall.ns, fun i y v h1 h2 h3 => ?_⟩, fun y c h => ⟨_, x.cell y c h⟩, e0.hok.fresh (Nat.le_refl _), fun y c h => ?_, fun p hp => absurd (show p ∈ ([] : List (Addr × Obj)) from hp) (by simp), e0.hok.kept hk, ?_⟩
  · exact name_of_addr x.apart (PySem.mem_of_lookup h1) (PySem.mem_of_lookup h2)
  · have hy : scope.names.lookup y = some .cell ∨ scope.names.lookup y = some .free := hy
    rcases hy with hy | hy
    · exact cell_has hy
    · exact absurd rfl (S.nofree _ (PySem.mem_of_lookup hy))
  · exact Nat.le_of_lt (x.above y c (PySem.mem_of_lookup h))
  · have hi : i < vs.length := by
      unfold start at h2
      by_cases hi : i < vs.length
      · exact hi
      · rw [List.getElem?_append_right (by simpa using hi)] at h2
        rw [List.getElem?_replicate] at h2
        split at h2 <;> cases h2
    have ha : vs[i]? = some v := by
      unfold start at h2
      rw [List.getElem?_append_left (by simpa using hi), List.getElem?_map] at h2
      cases e : vs[i]? with
      | none => rw [e] at h2; cases h2
      | some a => rw [e] at h2; cases h2; rfl
    obtain ⟨u, hu, rv⟩ := r.get ha
    have hp : ps[i]? = some y := by
      rw [← S.pre, List.getElem?_take_of_lt (by omega)]; exact h1
    have ndP : ps.Nodup := by rw [← S.pre]; exact S.nd.sublist (List.take_sublist _ _)
    refine ⟨u, rv, ?_⟩
    rcases S.par y (List.mem_of_getElem? hp) with k | k
    · exact .inl ⟨k, bindL_get ndP hp hu k⟩
    · obtain ⟨c, e⟩ := cell_has (n := s.heap.objs.size + 1) k
      refine .inr ⟨.inl k, c, e, ?_⟩
      have q := x.cell y c e
      rw [bindC_get ndP hp hu (by show scope.names.lookup y ≠ _; rw [k]; decide)] at q
      exact q
  · exact e0.hok.fresh (Nat.le_of_lt (x.above y c (PySem.mem_of_lookup h)))
  · unfold start
    show _ = N.length
    rw [List.length_append, List.length_map, List.length_replicate]
    omega

theorem fn_of {CX : CXT} {P : Program} {w : World} {K : PySem.W.Frag} {mg : Str → Option Value} {base : Heap} {k : Nat} {f : Addr} {name qual : Str} {params : Arguments} {body : List Stmt} {scope : Scope} {dV kV doc pm cdv ct oc : Value} {an od : Option Addr}
    {osl : Array (Option Value)} {N ps : List Str} {sp : Sp} (lk : K.lookup f = some ⟨oc, od, .func (PySem.W.fnOf name qual params body scope dV kV doc pm an cdv ct), osl⟩) (hcd : PySem.W.codeIn K cdv qual = true) (S : FnScope N ps scope)
    (len : ∀ vs H Q E, sp vs H Q E → vs.length = ps.length)
    (hbody : ∀ (A : Around) (outer : List Env) (s : Shared) (H : Hp) (vs : List V) (Q : VK) (E : XK), Room k (A.deeper (envOfC qual scope s.heap.objs.size f cdv)) → sp vs H Q E →
      ∃ t, PSs (cxOf CX P w K mg base N qual scope f cdv A outer s H E) body t ∧ t { nx := fun _ H' => Q .non H', rt := Q } (start N vs) H) :
    FnOk P w K mg base CX (k + 1) f (PySem.W.fnOf name qual params body scope dV kV doc pm an cdv ct) ps sp := by
  refine ⟨len, fun A outer s H args us vs Q E hr e0 hb r hsp => ?_⟩
  have hl := len _ _ _ _ hsp
  have KX : K.In s.heap := e0.mod.kin.keeps fun b o e => (e0.bs b o e).1
  have lim : s.heap.NoLimit := e0.mod.nolimit.keeps fun b o e => (e0.bs b o e).1
  have hkind : ∀ y ∈ ps.zip us, scope.names.lookup y.1 = some .local ∨ (scope.names.lookup y.1 = some .cell ∧ ((cellsFrom (s.heap.objs.size + 1) scope.names []).lookup y.1).isSome = true) := fun ⟨n, v⟩ hy => by
    rcases S.par n (List.of_mem_zip hy).1 with q | q
    · exact .inl q
    · exact .inr ⟨q, PySem.W.cellsFrom_some _ _ _ (.inl q)⟩
  refine codeAny_call_function hr.depth (KX _ _ lk) rfl S.co S.gen rfl (PySem.W.codeRec_of KX hcd) (hb _ _ _ _ ?_)
  refine wpAny_newFunctionEnv_cells S.kind hkind fun env he s1 x => ?_
  subst he
  refine ⟨lim.keeps x.toInCall.keep, codeAny_func ?_⟩
  obtain ⟨t, ht, hq⟩ := hbody A outer s H vs Q E (hr.deeper _) hsp
  have I : Inv (cxOf CX P w K mg base N qual scope f cdv A outer s H E) [] (start N vs) H s1 := inv_start S hr.hd e0 hl r x
  refine wpAny_mono (ht [] s1 (start N vs) H _ I hq) (fun fl s' hs => ?_) fun e s' hs => hs
  have fin : ∀ {σ' : St} {H' : Hp} {v : V} {u : Value}, Inv (cxOf CX P w K mg base N qual scope f cdv A outer s H E) [] σ' H' s' → RelV v u → Q v H' → CE outer P w H s Q u s' :=
    fun {σ' H' v u} J rv q => ⟨v, H', J.os, J.bare, J.base, J.hok, rv, q⟩
  cases fl with
  | ret u =>
    obtain ⟨v, σ', H', J, rv, q⟩ := hs
    exact fin J rv q
  | next =>
    obtain ⟨σ', H', J, q⟩ := hs
    exact fin (v := V.non) (u := Value.none) J rfl q
  | brk =>
    obtain ⟨_, _, _, q⟩ := hs
    exact False.elim q
  | cont =>
    obtain ⟨_, _, _, q⟩ := hs
    exact False.elim q
end L2

namespace L2
open PySem PySem.Spec PyProof.Rows
section
variable {X : Cx} {x : Str} {p pos : Pos} {e : Expr} {es : List Expr} {t : TA} {id T : String} {r : List V → Hp → VK → Prop}

noncomputable def tCB (r : List V → Hp → VK → Prop) (t : TA) : TE := fun σ H Q => t σ H fun vs H1 => r vs H1 Q
theorem pe_callB (hc : CallR X (.builtin id) r) (hg : Gl X x) (hm : X.mg x = none) (hv : bootBuiltins x = some (.builtin id)) (ha : PA X (e :: es) t) (hn : x ≠ "__name__" := by decide) (hdb : (x == ("__debug__" : Str)) = false := by decide)
    (he : starEach (e :: es) X.env = (false, eval e X.env) :: starEach es X.env := by rfl) (hpl : (backTo pos (starEach es X.env)).any (·.1) = false := by rfl) : PE X (.Call (.Name x p) (e :: es) [] pos) (tCB r t) := by
  intro pins s σ H Q I h
  refine wpAny_Call_Name_kw (ld_blt I hg hm hv ?_ hn hdb)
  exact PyProof.Rows.callWith_builtin1 (thn (ha pos pins s σ H _ I h) fun us s1 ⟨vs, H1, I1, r1, q1⟩ => hc pins s1 σ H1 vs us Q I1 r1 q1) he hpl
theorem pe_callTy (hc : CallR X (.type T) r) (hg : Gl X x) (hm : X.mg x = none) (hv : bootBuiltins x = some (.type T)) (ha : PA X (e :: es) t) (hn : x ≠ "__name__" := by decide) (hdb : (x == ("__debug__" : Str)) = false := by decide)
    (he : starEach (e :: es) X.env = (false, eval e X.env) :: starEach es X.env := by rfl) (hpl : (backTo pos (starEach es X.env)).any (·.1) = false := by rfl) : PE X (.Call (.Name x p) (e :: es) [] pos) (tCB r t) := by
  intro pins s σ H Q I h
  refine wpAny_Call_Name_kw (ld_blt I hg hm hv ?_ hn hdb)
  exact PyProof.Rows.callWith_type1 (thn (ha pos pins s σ H _ I h) fun us s1 ⟨vs, H1, I1, r1, q1⟩ => hc pins s1 σ H1 vs us Q I1 r1 q1) he hpl
end
end L2

namespace HT
open PySem PyProof.Rows



section
open PySem.SeqAt
open PySem.AutoSeq1 (wpAny_loadPart')
open PySem.MeetsSeq PySem.MeetsSeq2 PySem.MeetsSeq3

end

section
variable {prog : Program} {w : World} {A : Around} {E : Value → Shared → Prop} {s : Shared}



noncomputable def sIx (n d : Nat) : Option Int → Nat
  | none => d
  | some v => if v < 0 then (v + (n : Int)).toNat else min v.toNat n
theorem sIx_none (n d : Nat) : sIx n d none = d := rfl
theorem sIx_nat (n d k : Nat) : sIx n d (some (k : Int)) = min k n := by
  show (if (k : Int) < 0 then ((k : Int) + (n : Int)).toNat else min (k : Int).toNat n) = min k n
  rw [if_neg (by omega), Int.toNat_natCast]

end
end HT

namespace L2
open PySem PySem.Spec PyProof.Rows

noncomputable abbrev TO := St → Hp → (Option Int → Hp → Prop) → Prop
noncomputable def PO (X : Cx) (e : Option Expr) (t : TO) : Prop :=
  ∀ (pins : List (Addr × Obj)) (s : Shared) (σ : St) (H : Hp) (Q : Option Int → Hp → Prop), Inv X pins σ H s → t σ H Q →
    wpAny (model X.prog X.w) X.A (evalPart e X.env) (fun u s' => ∃ o H', Inv X pins σ H' s' ∧ IsPart u o ∧ Q o H') X.xe s
noncomputable def tNoPart : TO := fun _ H Q => Q none H
noncomputable def tPart (t : TE) : TO := fun σ H Q => t σ H fun x H1 => ∃ i, x = .int i ∧ Q (some i) H1


section
variable {X : Cx} {e : Expr} {te : TE} {lo hi : Option Expr} {tl th : TO} {pos p2 : Pos}

theorem po_none : PO X none tNoPart := by
  intro pins s σ H Q I h
  rw [evalPart_none]
  exact wpAny_pure ⟨none, H, I, .none, h⟩
theorem po_some (h : PE X e te) : PO X (some e) (tPart te) := by
  intro pins s σ H Q I hw
  rw [evalPart_some]
  refine thn (h pins s σ H _ I hw) fun u s1 ⟨x, H1, I1, r1, q1⟩ => ?_
  obtain ⟨i, rfl, q⟩ := q1
  obtain ⟨t, rfl⟩ := r1
  exact ⟨some i, H1, I1, .int i t, q⟩

noncomputable def SlR (X : Cx) (r : V → Option Int → Option Int → Hp → VK → Prop) : Prop :=
  ∀ (pins : List (Addr × Obj)) (s : Shared) (σ : St) (H : Hp) (x : V) (v vl vu : Value) (lo hi : Option Int) (sl : Addr) (Q : VK), Inv X pins σ H s → RelV x v → s.heap.IsSliceOf sl vl vu .none → IsPart vl lo → IsPart vu hi → r x lo hi H Q →
    ∃ T id, typeLookup (.type T) "__getitem__" = pure (some (.builtin id)) ∧ s.TypeIs v T ∧ wpAny (model X.prog X.w) X.A (getItem v (.ref sl)) (EP X pins σ Q) X.xe s
noncomputable def tSl (r : V → Option Int → Option Int → Hp → VK → Prop) (te : TE) (tl th : TO) : TE := fun σ H Q => te σ H fun x H1 => tl σ H1 fun l H2 => th σ H2 fun u H3 => r x l u H3 Q
theorem pe_slice {r : V → Option Int → Option Int → Hp → VK → Prop} (hr : SlR X r) (he : PE X e te) (hl : PO X lo tl) (hu : PO X hi th) : PE X (.Subscript e (.Slice lo hi none p2) pos) (tSl r te tl th) := by
  intro pins s σ H Q I h
  refine Subscript_ (thn (he pins s σ H _ I h) fun v s1 ⟨x, H1, I1, r1, q1⟩ => ?_)
  refine wpAny_Slice (thn (hl pins s1 σ H1 _ I1 q1) fun vl s2 ⟨l, H2, I2, pl, q2⟩ => thn (hu pins s2 σ H2 _ I2 q2) fun vu s3 ⟨u, H3, I3, pu, q3⟩ => ?_)
  rw [evalPart_none]
  refine wpAny_pure ?_
  have I4 : Inv X pins σ H3 { s3 with heap := s3.heap.push { cls := .type "slice", data := .fields #[vl, vu, .none] } } := I3.kept (t' := s3.toks) fun b ob q => Heap.get?_push_of_some _ q
  obtain ⟨T, id, hT, ht, hg⟩ := hr pins { s3 with heap := s3.heap.push { cls := .type "slice", data := .fields #[vl, vu, .none] } } σ H3 x v vl vu l u s3.heap.objs.size Q I4 r1 (Heap.IsSliceOf.new ..) pl pu q3
  show wpAny (model X.prog X.w) X.A (subscriptTail e (.Slice lo hi none p2) v (.ref s3.heap.objs.size)) (EP X pins σ Q) X.xe { s3 with heap := s3.heap.push { cls := .type "slice", data := .fields #[vl, vu, .none] } }
  exact tail_any (ops := [.ref s3.heap.objs.size, v]) ht hT hg (by with_unfolding_all rfl)

noncomputable def cutV (xs : List V) (lo hi : Option Int) : List V := (xs.drop (HT.sIx xs.length 0 lo)).take (HT.sIx xs.length xs.length hi - HT.sIx xs.length 0 lo)
theorem cutV_length (xs : List V) (lo hi : Option Int) : (cutV xs lo hi).length ≤ xs.length := by
  unfold cutV
  rw [List.length_take, List.length_drop]
  omega

end
end L2

namespace L2
open PySem PySem.Spec PyProof.Rows

noncomputable def ixN (n : Nat) (i : Int) : Option Nat := if 0 ≤ i then (if i < n then some i.toNat else none) else if -(n : Int) ≤ i then some (i + n).toNat else none
noncomputable def atI {α : Type} (xs : List α) (i : Int) : Option α := (ixN xs.length i).bind fun j => xs[j]?
theorem ixN_seq {n : Nat} {i : Int} {j : Nat} (h : ixN n i = some j) : seqIndex? i n = some j ∧ j < n ∧ -(n : Int) ≤ i ∧ i < n := by
  unfold ixN at h
  by_cases h0 : 0 ≤ i
  · rw [if_pos h0] at h
    by_cases h1 : i < n
    · rw [if_pos h1] at h
      have e : i.toNat = j := Option.some.inj h
      exact ⟨by rw [seqIndex_of h0 h1, e], by omega, by omega, h1⟩
    · rw [if_neg h1] at h; cases h
  · rw [if_neg h0] at h
    by_cases h1 : -(n : Int) ≤ i
    · rw [if_pos h1] at h
      have e : (i + n).toNat = j := Option.some.inj h
      exact ⟨by rw [seqIndex_neg (by omega) h1, e], by omega, h1, by omega⟩
    · rw [if_neg h1] at h; cases h
theorem atI_get {α : Type} {xs : List α} {i : Int} {v : α} (h : atI xs i = some v) : ∃ j, seqIndex? i xs.length = some j ∧ xs[j]? = some v ∧ j < xs.length ∧ -(xs.length : Int) ≤ i ∧ i < xs.length := by
  unfold atI at h
  cases e : ixN xs.length i with
  | none => rw [e] at h; cases h
  | some j =>
    rw [e] at h
    obtain ⟨h1, h2, h3, h4⟩ := ixN_seq e
    exact ⟨j, h1, h, h2, h3, h4⟩
theorem atI_nat {α : Type} {xs : List α} {j : Nat} {v : α} (h : xs[j]? = some v) : atI xs (j : Int) = some v := by
  have hj : j < xs.length := (List.getElem?_eq_some_iff.mp h).1
  have e : ixN xs.length (j : Int) = some j := by
    unfold ixN
    rw [if_pos (by omega), if_pos (by omega)]; simp
  unfold atI; rw [e]; exact h

noncomputable def PlainIx (b : Expr) : Prop := ∀ o i, subscripted b false o i = operate [o, i] (getItem o i)
noncomputable def IxR (X : Cx) (r : R2) : Prop :=
  ∀ (value slice : Expr) (pins : List (Addr × Obj)) (s : Shared) (σ : St) (H : Hp) (x y : V) (v u : Value) (Q : VK), Inv X pins σ H s → RelV x v → RelV y u → r x y H Q →
    subscripted slice false v u = operate [v, u] (getItem v u) → wpAny (model X.prog X.w) X.A (subscriptTail value slice v u) (EP X pins σ Q) X.xe s
noncomputable def MtR (X : Cx) (id : String) (r : V → List V → Hp → VK → Prop) : Prop :=
  ∀ (pins : List (Addr × Obj)) (s : Shared) (σ : St) (H : Hp) (x : V) (xs : List V) (v : Value) (us : List Value) (Q : VK), Inv X pins σ H s → RelV x v → Vals xs us → r x xs H Q →
    wpAny (model X.prog X.w) X.A (call (.builtin id) (v :: us)) (EP X pins σ Q) X.xe s
section
variable {X : Cx} {a b : Expr} {ta tb : TE} {pos : Pos}
theorem pe_ix {r : R2} (hr : IxR X r) (ha : PE X a ta) (hb : PE X b tb) (hs : PlainIx b) : PE X (.Subscript a b pos) (tOp r ta tb) := by
  intro pins s σ H Q I h
  exact Subscript_ (binT ha hb I h fun v u s2 x y H2 I2 rx ry q => hr a b pins s2 σ H2 x y v u Q I2 rx ry q (hs _ _))

inductive rIxL (K : PySem.W.Frag) (x : V) (y : V) (H : Hp) (Q : VK) : Prop
  | mk (p : _) (xs : _) (i : _) (v : _) (h0_ : x = .ref p) (h1_ : y = .int i) (h2_ : SqL K H p xs) (h3_ : atI xs i = some v) (h4_ : Q v H)
inductive rIxT (K : PySem.W.Frag) (x : V) (y : V) (H : Hp) (Q : VK) : Prop
  | mk (p : _) (xs : _) (i : _) (v : _) (h0_ : x = .ref p) (h1_ : y = .int i) (h2_ : SqT K H p xs) (h3_ : atI xs i = some v) (h4_ : Q v H)
inductive rIxS (x : V) (y : V) (H : Hp) (Q : VK) : Prop
  | mk (z : _) (i : _) (c : _) (h0_ : x = .str z) (h1_ : y = .int i) (h2_ : z.length ≤ sizeLine) (h3_ : atI z.cps.toList i = some c) (h4_ : Q (.str ⟨#[c]⟩) H)
theorem ix_list : IxR X (rIxL X.K) := by
  intro value slice pins s σ H x y v u Q I rx ry h hs
  obtain ⟨p, xs, i, z, rfl, rfl, hq, he, q⟩ := h
  cases rx
  obtain ⟨t, rfl⟩ := ry
  obtain ⟨its, r, pl, hz⟩ := I.list hq
  obtain ⟨j, h1, h2, h3, h4, h5⟩ := atI_get he
  obtain ⟨w, ew, rw'⟩ := r.get h2
  have hl := r.length
  have hn := line63
  have fin : EP X pins σ Q w s := ⟨z, H, I, rw', q⟩
  by_cases h0 : 0 ≤ i
  · have hj : i.toNat = j := by
      rw [seqIndex_of h0 h5] at h1
      exact Option.some.inj h1
    exact item_listR pl.isList h0 (by omega) (by rw [hj]; simpa using ew) fin hs
  · have hj : (i + (its.toArray.size : Int)).toNat = j := by
      rw [seqIndex_neg (by omega) h4] at h1
      rw [List.size_toArray, ← hl]
      exact Option.some.inj h1
    exact subscriptTail_builtinR (x := w) pl.isList.typeIs slot_list_getitem.lookup
      (wpAny_getItem_list_neg (Q := fun r s' => r = w ∧ EP X pins σ Q r s') pl.isList (by omega) (by rw [List.size_toArray] <;> omega) (by omega) (by rw [hj]; simpa using ew) ⟨rfl, fin⟩) hs
theorem ix_tup : IxR X (rIxT X.K) := by
  intro value slice pins s σ H x y v u Q I rx ry h hs
  obtain ⟨p, xs, i, z, rfl, rfl, hq, he, q⟩ := h
  cases rx
  obtain ⟨t, rfl⟩ := ry
  obtain ⟨its, r, pl, hz⟩ := I.tuple hq
  obtain ⟨j, h1, h2, h3, h4, h5⟩ := atI_get he
  obtain ⟨w, ew, rw'⟩ := r.get h2
  have hl := r.length
  have hn := line63
  have fin : EP X pins σ Q w s := ⟨z, H, I, rw', q⟩
  exact subscriptTail_builtinR (x := w) pl.typeIs slot_tuple_getitem.lookup
    (getItem_tuple (j := j) (Q := fun r s' => r = w ∧ EP X pins σ Q r s') pl (by omega) (by omega) (by rw [List.size_toArray, ← hl]; exact h1) (by simpa using ew) ⟨rfl, fin⟩) hs
theorem ix_str : IxR X rIxS := by
  intro value slice pins s σ H x y v u Q I rx ry h hs
  obtain ⟨z, i, c, rfl, rfl, hz, he, q⟩ := h
  obtain ⟨t, rfl⟩ := rx
  obtain ⟨t', rfl⟩ := ry
  obtain ⟨j, h1, h2, h3, h4, h5⟩ := atI_get he
  have hl : z.cps.toList.length = z.length := by simp [Str.length]
  rw [hl] at h1 h4 h5
  have hn := line63
  exact tail_any (typeIs_str s z t) slot_str_getitem.lookup (getItem_str (c := c) (by
    have e1 : decide (i < -(2 ^ 63 : Int)) = false := decide_eq_false (by omega)
    have e2 : decide (i ≥ 2 ^ 63) = false := decide_eq_false (by omega)
    rw [e1, e2, Bool.or_false]) (by rw [h1]; simpa using h2) ⟨.str ⟨#[c]⟩, H, I.tok _, ⟨_, rfl⟩, q⟩) hs


theorem slice_bounds (lo hi : Option Int) (n : Nat) : (sliceBounds lo hi none n).1 = ((HT.sIx n 0 lo : Nat) : Int) ∧ (sliceBounds lo hi none n).2.1 = ((HT.sIx n n hi : Nat) : Int) ∧ (sliceBounds lo hi none n).2.2 = 1 := by
  refine ⟨?_, ?_, rfl⟩
  · cases lo with
    | none => simp [sliceBounds, HT.sIx]
    | some i =>
      simp only [sliceBounds, HT.sIx, Option.getD_none, show (1 : Int) > 0 by decide, if_true]
      by_cases h : i < 0
      · simp only [h, if_true] <;> omega
      · simp only [h, if_false] <;> omega
  · cases hi with
    | none => simp [sliceBounds, HT.sIx]
    | some i =>
      simp only [sliceBounds, HT.sIx, Option.getD_none, show (1 : Int) > 0 by decide, if_true]
      by_cases h : i < 0
      · simp only [h, if_true] <;> omega
      · simp only [h, if_false] <;> omega
theorem slicePick_cut (its : List Value) (lo hi : Option Int) : slicePick its.toArray lo hi none = ((its.drop (HT.sIx its.length 0 lo)).take (HT.sIx its.length its.length hi - HT.sIx its.length 0 lo)).toArray := by
  obtain ⟨h1, h2, h3⟩ := slice_bounds lo hi its.toArray.size
  unfold slicePick
  rw [h1, h2, h3]
  simp only [sliceRange_one, pick_run, List.size_toArray] <;> rfl
inductive rSlL (K : PySem.W.Frag) (x : V) (lo hi : Option Int) (H : Hp) (Q : VK) : Prop
  | mk (a : Addr) (xs : List V) (h1 : x = .ref a) (h2 : SqL K H a xs) (q : ∀ p, H p = none → Q (.ref p) (upd H p (.lst (cutV xs lo hi))))
theorem sl_list : SlR X (rSlL X.K) := by
  intro pins s σ H x v vl vu lo hi sl Q I rx hs pl pu h
  obtain ⟨a, xs, rfl, hx, q⟩ := h
  cases rx
  obtain ⟨its, r, ht, hz⟩ := I.list hx
  have hlen := r.length
  refine ⟨"list", _, slot_list_getitem.lookup, ht.isList.typeIs, ?_⟩
  refine wpAny_getItem_list_slice ht.isList hs pl pu .none (by simp) ?_ (by rw [List.size_toArray] <;> omega)
  rw [slicePick_cut, ← hlen]
  refine ⟨.ref s.heap.objs.size, _, I.laid (t' := s.toks) (o := .lst (cutV xs lo hi)) (fun b ob q => Heap.get?_push_of_some _ q) (Nat.le_refl _) ?_, rfl, q _ (I.hok.fresh (Nat.le_refl _))⟩
  exact ⟨Nat.le_trans (cutV_length xs lo hi) hz, _, 0, (r.drop (HT.sIx xs.length 0 lo)).take (HT.sIx xs.length xs.length hi - HT.sIx xs.length 0 lo), Heap.get?_push_size _ rfl⟩

noncomputable def flatV : V → Bool
  | .non => true
  | .bl _ => true
  | .int _ => true
  | .str _ => true
  | _ => false
noncomputable def eqV : V → V → Bool
  | .non, .non => true
  | .bl a, .bl b => a == b
  | .bl a, .int b => (if a then 1 else 0) == b
  | .int a, .bl b => a == (if b then 1 else 0)
  | .int a, .int b => a == b
  | .str a, .str b => a == b
  | _, _ => false
theorem eqAt_V {A : Around} {s : Shared} {y x : V} {u v : Value} (ry : RelV y u) (rx : RelV x v) (fy : flatV y = true) (fx : flatV x = true) : SeqAt.EqAt A s u v (eqV y x) := by
  cases y with
  | non =>
    cases ry
    cases x with
    | non => cases rx; exact SeqAt.EqAt.same _
    | bl b => cases rx; exact SeqAt.EqAt.none_bool b
    | int b => obtain ⟨t, rfl⟩ := rx; exact SeqAt.EqAt.none_int b t
    | str b => obtain ⟨t, rfl⟩ := rx; exact SeqAt.EqAt.none_str b t
    | _ => exact absurd (show false = true from fx) Bool.false_ne_true
  | bl a =>
    cases ry
    cases x with
    | non => cases rx; exact SeqAt.EqAt.bool_none a
    | bl b => cases rx; exact SeqAt.EqAt.bool_bool a b
    | int b => obtain ⟨t, rfl⟩ := rx; exact SeqAt.EqAt.bool_int a b t
    | str b => obtain ⟨t, rfl⟩ := rx; exact SeqAt.EqAt.bool_str a b t
    | _ => exact absurd (show false = true from fx) Bool.false_ne_true
  | int a =>
    obtain ⟨t', rfl⟩ := ry
    cases x with
    | non => cases rx; exact SeqAt.EqAt.int_none a t'
    | bl b => cases rx; exact SeqAt.EqAt.int_bool a t' b
    | int b => obtain ⟨t, rfl⟩ := rx; exact SeqAt.EqAt.int_int a t' b t
    | str b => obtain ⟨t, rfl⟩ := rx; exact SeqAt.EqAt.int_str a t' b t
    | _ => exact absurd (show false = true from fx) Bool.false_ne_true
  | str a =>
    obtain ⟨t', rfl⟩ := ry
    cases x with
    | non => cases rx; exact SeqAt.EqAt.str_none a t'
    | bl b => cases rx; exact SeqAt.EqAt.str_bool a t' b
    | int b => obtain ⟨t, rfl⟩ := rx; exact SeqAt.EqAt.str_int a t' b t
    | str b => obtain ⟨t, rfl⟩ := rx; exact SeqAt.EqAt.str_str a t' b t
    | _ => exact absurd (show false = true from fx) Bool.false_ne_true
  | _ => exact absurd (show false = true from fy) Bool.false_ne_true
noncomputable def eqU (x : V) (u : Value) : Bool := match u with
  | .none => eqV .non x
  | .bool b => eqV (.bl b) x
  | .int i _ => eqV (.int i) x
  | .str z _ => eqV (.str z) x
  | _ => false
theorem eqU_of {x y : V} {u : Value} (r : RelV y u) (f : flatV y = true) : eqU x u = eqV y x := by
  cases y with
  | non => cases r; rfl
  | bl b => cases r; rfl
  | int i => obtain ⟨t, rfl⟩ := r; rfl
  | str z => obtain ⟨t, rfl⟩ := r; rfl
  | _ => exact absurd (show false = true from f) Bool.false_ne_true
theorem any_eqU {x : V} : ∀ {xs : List V} {us : List Value}, Vals xs us → xs.all flatV = true → us.any (eqU x) = xs.any fun y => eqV y x
  | _, _, .nil, _ => rfl
  | y :: xs, u :: us, .cons r t, f => by
    rw [List.all_cons, Bool.and_eq_true] at f
    rw [List.any_cons, List.any_cons, eqU_of r f.1, any_eqU t f.2]
theorem mem_eqAt {A : Around} {s : Shared} {x : V} {v : Value} (rx : RelV x v) (fx : flatV x = true) : ∀ {xs : List V} {us : List Value}, Vals xs us → xs.all flatV = true → ∀ u ∈ us, SeqAt.EqAt A s u v (eqU x u)
  | _, _, .nil, _ => fun u hu => by cases hu
  | y :: xs, u :: us, .cons r t, f => fun u' hu => by
    rw [List.all_cons, Bool.and_eq_true] at f
    rcases List.mem_cons.mp hu with rfl | hu
    · rw [eqU_of r f.1]; exact eqAt_V r rx f.1 fx
    · exact mem_eqAt rx fx t f.2 u' hu
noncomputable def inV (x : V) (xs : List V) : Bool := xs.any fun y => eqV y x
inductive rIn (K : PySem.W.Frag) (neg : Bool) (x : V) (y : V) (H : Hp) (Q : VK) : Prop
  | mk (p : _) (xs : _) (h0_ : y = .ref p) (h1_ : (SqL K H p xs ∨ SqT K H p xs)) (h2_ : flatV x = true) (h3_ : xs.all flatV = true) (h4_ : Q (.bl (if neg then !inV x xs else inV x xs)) H)
theorem op_in_seq : OpR X (compareOp .In) (rIn X.K false) := by
  intro pins s σ H x y v u Q I rx ry h
  obtain ⟨p, xs, rfl, hq, fx, fs, q⟩ := h
  cases ry
  rcases hq with hq | hq
  · obtain ⟨its, r, pl, hz⟩ := I.list hq
    refine SeqAt.in_listAt (eqU x) pl.isList (fun w hw => mem_eqAt rx fx r fs w (by simpa using hw)) ⟨.bl _, H, I, rfl, ?_⟩
    rw [show its.toArray.any (eqU x) = its.any (eqU x) by simp, any_eqU r fs]
    exact q
  · obtain ⟨its, r, pl, hz⟩ := I.tuple hq
    refine SeqAt.in_tupleAt (eqU x) pl (fun w hw => mem_eqAt rx fx r fs w (by simpa using hw)) ⟨.bl _, H, I, rfl, ?_⟩
    rw [show its.toArray.any (eqU x) = its.any (eqU x) by simp, any_eqU r fs]
    exact q
theorem op_notIn_seq : OpR X (compareOp .NotIn) (rIn X.K true) := by
  intro pins s σ H x y v u Q I rx ry h
  obtain ⟨p, xs, rfl, hq, fx, fs, q⟩ := h
  cases ry
  rcases hq with hq | hq
  · obtain ⟨its, r, pl, hz⟩ := I.list hq
    refine SeqAt.notIn_listAt (eqU x) pl.isList (fun w hw => mem_eqAt rx fx r fs w (by simpa using hw)) ⟨.bl _, H, I, rfl, ?_⟩
    rw [show its.toArray.any (eqU x) = its.any (eqU x) by simp, any_eqU r fs]
    exact q
  · obtain ⟨its, r, pl, hz⟩ := I.tuple hq
    refine SeqAt.notIn_tupleAt (eqU x) pl (fun w hw => mem_eqAt rx fx r fs w (by simpa using hw)) ⟨.bl _, H, I, rfl, ?_⟩
    rw [show its.toArray.any (eqU x) = its.any (eqU x) by simp, any_eqU r fs]
    exact q

inductive LenSeq (K : PySem.W.Frag) (xs : List V) (H : Hp) (Q : VK) : Prop
  | mk (p : _) (ys : _) (h0_ : xs = [.ref p]) (h1_ : (SqL K H p ys ∨ SqT K H p ys)) (h2_ : Q (.int ys.length) H)
theorem call_len_seq : CallR X (.builtin "len") (LenSeq X.K) := by
  intro pins s σ H xs us Q I r h
  obtain ⟨p, ys, rfl, hq, q⟩ := h
  obtain ⟨u, rfl, rx⟩ := vals1 r
  cases rx
  have hn := line63
  rcases hq with hq | hq
  · obtain ⟨its, r', pl, hz⟩ := I.list hq
    have hlen := r'.length
    exact Calls.call_len_list pl.isList (by simp only [List.size_toArray] <;> omega) ⟨.int ys.length, H, I.tok _, ⟨s.toks + 1, by rw [List.size_toArray, hlen]⟩, q⟩
  · obtain ⟨its, r', pl, hz⟩ := I.tuple hq
    have hlen := r'.length
    exact len_tuple pl (by simp only [List.size_toArray] <;> omega) ⟨.int ys.length, H, I.tok _, ⟨s.toks + 1, by rw [List.size_toArray, hlen]⟩, q⟩
theorem call_len_str : CallR X (.builtin "len") (fun xs H Q => ∃ z, xs = [.str z] ∧ z.length ≤ sizeLine ∧ Q (.int z.length) H) := by
  intro pins s σ H xs us Q I r h
  obtain ⟨z, rfl, hz, q⟩ := h
  obtain ⟨u, rfl, t, rfl⟩ := vals1 r
  have hn := line63
  exact len_str (by omega) ⟨.int z.length, H, I.tok _, ⟨_, rfl⟩, q⟩
inductive ListOf (K : PySem.W.Frag) (xs : List V) (H : Hp) (Q : VK) : Prop
  | mk (p : _) (ys : _) (h0_ : xs = [.ref p]) (h1_ : (SqL K H p ys ∨ SqT K H p ys)) (h2_ : ∀ l, H l = none → Q (.ref l) (upd H l (.lst ys)))
theorem call_list_of : CallR X (.type "list") (ListOf X.K) := by
  intro pins s σ H xs us Q I r h
  obtain ⟨p, ys, rfl, hq, q⟩ := h
  obtain ⟨u, rfl, rx⟩ := vals1 r
  cases rx
  have fin : ∀ (its : List Value), Vals ys its → ys.length ≤ sizeLine → ∀ (h' : Heap) (c' : Nat), (∀ b o', s.heap.get? b = some o' → h'.get? b = some o') →
      h'.get? s.heap.objs.size = some { cls := .type "list", dict := none, data := .seq its.toArray c', slots := #[] } → EP X pins σ Q (.ref s.heap.objs.size) { s with heap := h' } := fun its r' hz h' c' kp e =>
    ⟨.ref s.heap.objs.size, _, I.laid (t' := s.toks) kp (Nat.le_refl _) (show ObjOk X.prog X.w _ h' _ (.lst ys) from ⟨hz, its, c', r', e⟩), rfl, q _ (I.hok.fresh (Nat.le_refl _))⟩
  rcases hq with hq | hq
  · obtain ⟨its, r', pl, hz⟩ := I.list hq
    have hlen := r'.length
    obtain ⟨o, ho, hc, n, hd⟩ := pl.isList
    exact call_list_seq p (.inl rfl) ho hc hd (fun h' c' kp e => fin its r' hz h' c' kp e) (by simp only [List.size_toArray] <;> omega)
  · obtain ⟨its, r', pl, hz⟩ := I.tuple hq
    have hlen := r'.length
    obtain ⟨o, ho, hc, n, hd⟩ := pl
    exact call_list_seq p (.inr rfl) ho hc hd (fun h' c' kp e => fin its r' hz h' c' kp e) (by simp only [List.size_toArray] <;> omega)

noncomputable def tyV (K : PySem.W.Frag) (T : String) (x : V) (H : Hp) : Prop := match x with
  | .str _ => T = "str"
  | .int _ => T = "int"
  | .ref p => (T = "list" ∧ ∃ xs, SqL K H p xs) ∨ (T = "tuple" ∧ ∃ o, K.lookup p = some o ∧ o.cls = .type "tuple" ∧ o.dict = none) ∨
      (T = "dict" ∧ ((∃ kvs, H p = some (.dK kvs)) ∨ ∃ kvs, H p = some (.dT kvs))) ∨ (T = "set" ∧ ∃ S n, H p = some (.set S n))
  | _ => False
theorem tyV_is {pins : List (Addr × Obj)} {σ : St} {H : Hp} {s : Shared} {T : String} {x : V} {v : Value} (I : Inv X pins σ H s) (r : RelV x v) (ty : tyV X.K T x H) :
    s.TypeIs v T ∧ ∀ a, v = .ref a → ∃ ob, s.heap.get? a = some ob ∧ ob.dict = none := by
  cases x with
  | str z =>
    obtain ⟨t, rfl⟩ := r
    cases (show T = "str" from ty)
    exact ⟨typeIs_str s z t, fun _ e => nomatch e⟩
  | int i =>
    obtain ⟨t, rfl⟩ := r
    cases (show T = "int" from ty)
    exact ⟨typeIs_int s i t, fun _ e => nomatch e⟩
  | ref p =>
    cases r
    rcases ty with ⟨rfl, xs, hq⟩ | ⟨rfl, o, hk, hc, hd⟩ | ⟨rfl, hk⟩ | ⟨rfl, S, n, hk⟩
    · obtain ⟨its, _, pl, _⟩ := I.list hq
      refine ⟨pl.isList.typeIs, fun a e => ?_⟩
      cases e
      obtain ⟨o, n, e, c, hd, _⟩ := pl
      exact ⟨o, e, hd⟩
    · refine ⟨⟨o, I.kIn p o hk, hc⟩, fun a e => ?_⟩
      cases e
      exact ⟨o, I.kIn _ o hk, hd⟩
    · have z : ∃ o, s.heap.get? p = some o ∧ o.ExactDict := by
        rcases hk with ⟨kvs, hk⟩ | ⟨kvs, hk⟩
        · obtain ⟨_, _, _, _, o, _, _, e, ex, _⟩ := I.hok p _ hk
          exact ⟨o, e, ex⟩
        · obtain ⟨_, _, _, _, o, _, _, e, ex, _⟩ := I.hok p _ hk
          exact ⟨o, e, ex⟩
      obtain ⟨o, e, ex⟩ := z
      refine ⟨⟨o, e, ex.1⟩, fun a e2 => ?_⟩
      cases e2
      exact ⟨o, e, ex.2.1⟩
    · obtain ⟨o, _, _, _, e, ex, _⟩ := I.hok p _ hk
      refine ⟨⟨o, e, ex.1⟩, fun a e2 => ?_⟩
      cases e2
      exact ⟨o, e, ex.2.1⟩
  | _ => exact False.elim ty
noncomputable def tBM (K : PySem.W.Frag) (T : String) (r : V → List V → Hp → VK → Prop) (to : TE) (t : TA) : TE := fun σ H Q => to σ H fun x H1 => tyV K T x H1 ∧ t σ H1 fun xs H2 => r x xs H2 Q
variable {o e : Expr} {es : List Expr} {to : TE} {t : TA} {name : Str} {apos cpos : Pos} {T id : String} {r : V → List V → Hp → VK → Prop}
theorem pe_bm (pa : PlainAttrs T) (slot : Slot T name id) (hty : typeOf (.builtin id) = pure (.type "method_descriptor")) (hm : MtR X id r) (ho : PE X o to) (ha : PA X (e :: es) t)
    (hbase : attributeBase o name X.env (eval o X.env) = eval o X.env := by rfl)
    (hfew : ((backTo cpos (starEach (e :: es) X.env)).all (fun x => !x.1) && (backToKw cpos (keywordEach [] X.env)).all (fun x => x.1.isSome)
      && decide ((e :: es).length + ([] : List Keyword).length + (if ([] : List Keyword).isEmpty then 0 else 1) < 30)) = true := by rfl)
    (hline : (apos.endLine == cpos.line) = true := by rfl) (hs : starEach (e :: es) X.env = (false, eval e X.env) :: starEach es X.env := by rfl) (hplain : (backTo cpos (starEach es X.env)).any (·.1) = false := by rfl) :
    PE X (.Call (.Attribute o name apos) (e :: es) [] cpos) (tBM X.K T r to t) := by
  intro pins s σ H Q I h
  refine wpAny_Call_method_late hbase hfew hline rfl (thn (ho pins s σ H _ I h) fun v s1 ⟨x, H1, I1, r1, ty, q1⟩ => ?_)
  obtain ⟨h1, h2⟩ := tyV_is I1 r1 ty
  refine ⟨T, id, pa, slot, hty, h1, h2, ?_⟩
  have hA := ha cpos pins s1 σ H1 _ I1 q1
  rw [hs] at hA ⊢
  refine Calls.callWith_builtin (by show (false || (backTo cpos (starEach es X.env)).any (·.1)) = false; rw [hplain] <;> rfl) (Calls.evalArgs_plain ?_)
  exact thn hA fun us s2 ⟨vs, H2, I2, r2, q2⟩ => hm pins s2 σ H2 x vs v us Q I2 r1 r2 q2
/- xs.append(e), list.index on a module's tuple .. are MtR facts of 06m -/
end
end L2

namespace L2
open PySem PySem.Spec PyProof.Rows

noncomputable def MtM (X : Cx) (id : String) (r : V → List V → Hp → VK → Prop) : Prop :=
  ∀ (pins : List (Addr × Obj)) (s : Shared) (σ : St) (H : Hp) (x : V) (xs : List V) (v : Value) (us : List Value) (Q : VK), Inv X pins σ H s → RelV x v → Vals xs us → r x xs H Q →
    wpAny (model X.prog X.w) X.A (call (.builtin id) (v :: us)) (EP X pins σ Q) X.xe s

theorem Vals.one : ∀ {x : V} {us : List Value}, Vals [x] us → ∃ u, us = [u] ∧ RelV x u
  | _, _, .cons r .nil => ⟨_, rfl, r⟩
theorem Vals.rep {xs : List V} {us : List Value} (h : Vals xs us) : ∀ k : Nat, Vals (List.replicate k xs).flatten (List.replicate k us).flatten
  | 0 => .nil
  | k + 1 => by
    rw [List.replicate_succ, List.replicate_succ, List.flatten_cons, List.flatten_cons]
    exact Vals.append h (Vals.rep h k)
theorem foldl_rep (its : List Value) : ∀ (k : Nat) (acc : List Value),
    List.foldl (fun x1 x2 => x1 ++ x2) acc.toArray (List.replicate k its.toArray) = (acc ++ (List.replicate k its).flatten).toArray
  | 0, acc => by simp
  | k + 1, acc => by
    have e : acc.toArray ++ its.toArray = (acc ++ its).toArray := by simp
    have e2 : (acc ++ its) ++ (List.replicate k its).flatten = acc ++ (List.replicate (k + 1) its).flatten := by
      rw [List.replicate_succ, List.flatten_cons, List.append_assoc]
    rw [← e2, ← foldl_rep its k (acc ++ its), ← e, List.replicate_succ, List.foldl_cons]

section
variable {X : Cx} {pins : List (Addr × Obj)} {σ : St} {H : Hp} {s : Shared} {l b : Addr} {xs ys zs : List V}

theorem Inv.lset {its its' : List Value} {n : Nat} {f : Array Value → Array Value} {t' : Nat} (I : Inv X pins σ H s) (hH : H l = some (.lst xs))
    (e : s.heap.get? l = some { cls := .type "list", data := .seq its.toArray n }) (hf : f its.toArray = its'.toArray) (hv : Vals ys its') (hz : ys.length ≤ sizeLine) :
    Inv X pins σ (upd H l (.lst ys)) { s with heap := s.heap.update l (Obj.mapSeq f), toks := t' } := by
  have q := PySem.IsL.update e f
  rw [hf] at q
  refine I.write (x := l) (e := l) (by rw [hH]; exact trivial) (.inl rfl) (fun b' u hb hu => (Heap.get?_update_other s.heap (Obj.mapSeq f) (Ne.symm hb)).trans hu) ⟨_, q⟩ ?_
  exact ⟨hz, its', _, hv, q⟩
theorem Inv.lnew {its : List Value} {t' : Nat} (I : Inv X pins σ H s) (hv : Vals ys its) (hz : ys.length ≤ sizeLine) :
    Inv X pins σ (upd H s.heap.objs.size (.lst ys)) { s with heap := s.heap.push { cls := .type "list", data := .seq its.toArray }, toks := t' } :=
  I.laid (fun _ _ q => Heap.get?_push_of_some _ q) (Nat.le_refl _) ⟨hz, its, 0, hv, Heap.get?_push_size _ rfl⟩
theorem Inv.fresh (I : Inv X pins σ H s) : H s.heap.objs.size = none := I.hok.fresh (Nat.le_refl _)
theorem Inv.lstM (I : Inv X pins σ H s) (hH : H l = some (.lst xs)) : xs.length ≤ sizeLine ∧ ∃ (its : List Value) (n : Nat), Vals xs its ∧ xs.length = its.length ∧ s.heap.get? l = some { cls := .type "list", data := .seq its.toArray n } := by
  obtain ⟨z, its, n, r, e⟩ := I.hok l _ hH
  exact ⟨z, its, n, r, r.length, e⟩

theorem notLongL {n : Nat} (h : n ≤ sizeLine) : Builtin.List.listTooLong n = false := by
  unfold Builtin.List.listTooLong
  exact decide_eq_false (by omega)
end

section
variable {X : Cx}

noncomputable def rAppend : V → List V → Hp → VK → Prop := fun x vs H Q => ∃ l xs y, x = .ref l ∧ vs = [y] ∧ H l = some (.lst xs) ∧ xs.length < sizeLine ∧ Q .non (upd H l (.lst (xs ++ [y])))
theorem mt_append : MtM X "list.append" rAppend := by
  intro pins s σ H x vs v us Q I rx rv h
  obtain ⟨l, xs, y, rfl, rfl, hH, hz, q⟩ := h
  cases rx
  obtain ⟨u, rfl, ru⟩ := rv.one
  obtain ⟨z, its, n, r, hl, e⟩ := I.lstM hH
  refine call_meets F.slot_list_append ⟨_, e, rfl⟩ F.entry_list_append (F.args_list_append_2 _ _) (PySem.list_append l its.toArray n u (by rw [List.size_toArray]; omega)) ⟨e, ?_⟩
  refine ⟨.non, _, I.lset (its' := its ++ [u]) hH e (by simp) (r.append (.cons ru .nil)) ?_, rfl, q⟩
  rw [List.length_append, List.length_singleton]
  omega

noncomputable def rExtend : V → List V → Hp → VK → Prop := fun x vs H Q => ∃ l b xs zs, x = .ref l ∧ vs = [.ref b] ∧ H l = some (.lst xs) ∧ H b = some (.lst zs) ∧ xs.length + zs.length ≤ sizeLine ∧ Q .non (upd H l (.lst (xs ++ zs)))
theorem mt_extend : MtM X "list.extend" rExtend := by
  intro pins s σ H x vs v us Q I rx rv h
  obtain ⟨l, b, xs, zs, rfl, rfl, hH, hB, hz, q⟩ := h
  cases rx
  obtain ⟨u, rfl, ru⟩ := rv.one
  cases ru
  obtain ⟨z, its, n, r, hl, e⟩ := I.lstM hH
  obtain ⟨z2, its2, n2, r2, hl2, e2⟩ := I.lstM hB
  have hsz : its.toArray.size + its2.toArray.size ≤ sizeLine := by rw [List.size_toArray, List.size_toArray]; omega
  have hlong : ¬ (!its.toArray.isEmpty && Builtin.List.listTooLong (its.toArray.size + its2.toArray.size)) = true := by
    rw [notLongL hsz, Bool.and_false]
    exact Bool.false_ne_true
  refine call_meets F.slot_list_extend ⟨_, e, rfl⟩ F.entry_list_extend (F.args_list_extend_2 _ _)
    (AutoSeq1.list_extend_list_list_0 l its.toArray n b its2.toArray n2 hlong (by rw [List.size_toArray]; omega) (by omega)) ⟨e, e2, ?_⟩
  refine ⟨.non, _, I.lset (its' := its ++ its2) hH e (by simp) (r.append r2) ?_, rfl, q⟩
  rw [List.length_append]
  omega





inductive rCat (x : V) (y : V) (H : Hp) (Q : VK) : Prop
  | mk (l : _) (b : _) (xs : _) (zs : _) (h0_ : x = .ref l) (h1_ : y = .ref b) (h2_ : H l = some (.lst xs)) (h3_ : H b = some (.lst zs)) (h4_ : xs.length + zs.length ≤ sizeLine) (h5_ : ∀ p, H p = none → Q (.ref p) (upd H p (.lst (xs ++ zs))))
theorem op_cat : OpR X (binaryOp .Add) rCat := by
  intro pins s σ H x y v u Q I rx ry h
  obtain ⟨l, b, xs, zs, rfl, rfl, hH, hB, hz, q⟩ := h
  cases rx
  cases ry
  obtain ⟨z, its, n, r, hl, e⟩ := I.lstM hH
  obtain ⟨z2, its2, n2, r2, hl2, e2⟩ := I.lstM hB
  refine PySem.P.add_list e e2 ?_ (by rw [List.size_toArray, List.size_toArray]; omega)
  have ea : its.toArray ++ its2.toArray = (its ++ its2).toArray := by simp
  rw [ea]
  exact ⟨.ref _, _, I.lnew (t' := s.toks) (r.append r2) (by rw [List.length_append]; omega), rfl, q _ I.fresh⟩
inductive rRep (x : V) (y : V) (H : Hp) (Q : VK) : Prop
  | mk (l : _) (k : _) (xs : _) (h0_ : x = .ref l) (h1_ : y = .int k) (h2_ : H l = some (.lst xs)) (h3_ : -(2 ^ 63) ≤ k) (h4_ : k < 2 ^ 63) (h5_ : xs.length * k.toNat ≤ sizeLine) (h6_ : ∀ p, H p = none → Q (.ref p) (upd H p (.lst (List.replicate k.toNat xs).flatten)))
theorem len_rep {α : Type} (xs : List α) (k : Nat) : (List.replicate k xs).flatten.length = k * xs.length := by
  induction k with
  | zero => simp
  | succ k ih => rw [List.replicate_succ, List.flatten_cons, List.length_append, ih, Nat.succ_mul, Nat.add_comm]
theorem op_rep : OpR X (binaryOp .Mult) rRep := by
  intro pins s σ H x y v u Q I rx ry h
  obtain ⟨l, k, xs, rfl, rfl, hH, h1, h2, hz, q⟩ := h
  cases rx
  obtain ⟨t, rfl⟩ := ry
  obtain ⟨z, its, n, r, hl, e⟩ := I.lstM hH
  have hlen : its.toArray.size * k.toNat ≤ sizeLine := by rw [List.size_toArray, ← hl]; exact hz
  have hcap : ¬ its.toArray.size * k.toNat > (2 ^ 63 - 1) / 8 := by
    have : (sizeLine : Nat) ≤ (2 ^ 63 - 1) / 8 := by decide
    omega
  have hfit : ¬ (!Builtin.List.listFitsIndex k) = true := by
    rw [fitsIndex_both h1 h2]
    exact Bool.false_ne_true
  have hlong : ¬ Builtin.List.listTooLong (its.toArray.size * k.toNat) = true := by
    rw [notLongL hlen]
    exact Bool.false_ne_true
  have hnew : List.foldl (fun x1 x2 => x1 ++ x2) #[] (List.replicate (if its.toArray.isEmpty = true then 0 else k.toNat) its.toArray) = (List.replicate k.toNat its).flatten.toArray := by
    have f0 : ∀ m : Nat, List.foldl (fun x1 x2 => x1 ++ x2) #[] (List.replicate m its.toArray) = (List.replicate m its).flatten.toArray := fun m => by
      have := foldl_rep its m []
      rw [List.nil_append] at this
      exact this
    rw [f0]
    cases its with
    | nil => simp
    | cons a r' => rw [if_neg (by simp)]
  refine wpAny_binaryOp_repeat_ref (T := "list") (U := "int") (by decide) ⟨_, e, rfl⟩ (fun s' => typeIs_int s' k t) noFill_list_mul F.fills_int_mul F.slot_int_rmul repeat_list F.slot_int_index.lookup
    (call_meets F.slot_int_rmul (typeIs_int s k t) F.entry_int_rmul (F.args_int_rmul_2 _ _) (int___rmul___int_list k t l its.toArray n)
      ⟨e, rfl, ⟨_, e, rfl⟩, call_meets F.slot_list_mul ⟨_, e, rfl⟩ F.entry_list_mul (F.args_list_mul_2 _ _) (AutoListH.list___mul___list_int_3 l its.toArray n k t hfit hcap hlong) ⟨e, ?_⟩⟩)
  rw [hnew]
  exact ⟨.ref _, _, I.lnew (t' := s.toks) (r.rep k.toNat) (by rw [len_rep, Nat.mul_comm]; exact hz), rfl, q _ I.fresh⟩

end

section
variable {prog : Program} {w : World} {A : Around} {E : Value → Shared → Prop} {s : Shared}
set_option maxRecDepth 100000 in
end

section
variable {X : Cx}
end
end L2

namespace L2
open PySem PySem.Spec PyProof.Rows

section
variable {κ : Type} [DecidableEq κ]
noncomputable def valV (kvs : List (κ × V)) (k : κ) : Option V := (kvs.find? fun kv => decide (kv.1 = k)).map (·.2)
noncomputable def putK (kvs : List (κ × V)) (k : κ) (v : V) : List (κ × V) :=
  if (kvs.any fun kv => decide (kv.1 = k)) = true then kvs.map (fun kv => if kv.1 = k then (kv.1, v) else kv) else kvs ++ [(k, v)]

theorem valV_pos {p : κ × V} {r : List (κ × V)} {k : κ} (e : p.1 = k) : valV (p :: r) k = some p.2 := by simp [valV, List.find?_cons, e]
theorem valV_neg {p : κ × V} {r : List (κ × V)} {k : κ} (e : ¬ p.1 = k) : valV (p :: r) k = valV r k := by simp [valV, List.find?_cons, e]
theorem valV_any (k : κ) : ∀ kvs : List (κ × V), (kvs.any fun kv => decide (kv.1 = k)) = (valV kvs k).isSome
  | [] => rfl
  | p :: r => by
    rw [List.any_cons]
    by_cases e : p.1 = k
    · simp only [valV_pos e, decide_eq_true e, Bool.true_or, Option.isSome_some]
    · rw [valV_neg e, decide_eq_false e, Bool.false_or]; exact valV_any k r
theorem valV_map (k j : κ) (y : V) : ∀ kvs : List (κ × V), valV (kvs.map fun kv => if kv.1 = k then (kv.1, y) else kv) j = (valV kvs j).map fun x => if j = k then y else x
  | [] => rfl
  | p :: r => by
    have ih := valV_map k j y r
    rw [List.map_cons]
    by_cases h : p.1 = k
    · rw [if_pos h]
      by_cases e : p.1 = j
      · rw [valV_pos (p := (p.1, y)) e, valV_pos e, Option.map_some, if_pos (e.symm.trans h)]
      · rw [valV_neg (p := (p.1, y)) e, valV_neg e, ih]
    · rw [if_neg h]
      by_cases e : p.1 = j
      · rw [valV_pos (p := p) e, valV_pos e, Option.map_some, if_neg (fun z => h (e.trans z))]
      · rw [valV_neg (p := p) e, valV_neg e, ih]
theorem valV_snoc (k j : κ) (y : V) : ∀ kvs : List (κ × V), valV kvs k = none → valV (kvs ++ [(k, y)]) j = if j = k then some y else valV kvs j
  | [], _ => by
    by_cases e : k = j
    · rw [if_pos e.symm]; exact valV_pos (p := (k, y)) e
    · rw [if_neg (fun z => e z.symm)]; exact valV_neg (p := (k, y)) e
  | p :: r, hn => by
    rw [List.cons_append]
    have hk : ¬ p.1 = k := fun z => by rw [valV_pos z] at hn; cases hn
    rw [valV_neg hk] at hn
    have ih := valV_snoc k j y r hn
    by_cases e : p.1 = j
    · rw [valV_pos e, valV_pos e, if_neg (fun z => hk (e.trans z))]
    · rw [valV_neg e, valV_neg e, ih]
theorem valV_put (kvs : List (κ × V)) (k j : κ) (y : V) : valV (putK kvs k y) j = if j = k then some y else valV kvs j := by
  unfold putK
  by_cases a : (kvs.any fun kv => decide (kv.1 = k)) = true
  · rw [if_pos a, valV_map]
    rw [valV_any] at a
    by_cases e : j = k
    · obtain ⟨x, hx⟩ := Option.isSome_iff_exists.mp a
      rw [if_pos e, e, hx, Option.map_some, if_pos rfl]
    · rw [if_neg e]
      cases valV kvs j with
      | none => rfl
      | some x => rw [Option.map_some, if_neg e]
  · rw [if_neg a]
    refine valV_snoc k j y kvs ?_
    rw [valV_any] at a
    cases q : valV kvs k with
    | none => rfl
    | some x => rw [q] at a; exact (a rfl).elim
theorem length_putK (kvs : List (κ × V)) (k : κ) (v : V) : (putK kvs k v).length ≤ kvs.length + 1 := by
  unfold putK
  split
  · rw [List.length_map]; omega
  · rw [List.length_append, List.length_cons, List.length_nil]; omega
theorem putK_new {kvs : List (κ × V)} {k : κ} (v : V) (h : valV kvs k = none) : putK kvs k v = kvs ++ [(k, v)] := by
  unfold putK
  rw [valV_any, h]
  exact if_neg (by decide)

theorem RelO.isSome_eq {o : Option V} {u : Option Value} (r : RelO o u) : o.isSome = u.isSome := by
  cases o with
  | none => cases u with
    | none => rfl
    | some _ => exact (show False from r).elim
  | some _ => cases u with
    | none => exact (show False from r).elim
    | some _ => rfl
theorem RelO.getD {o : Option V} {u : Option Value} {d : V} {d' : Value} (r : RelO o u) (rd : RelV d d') : RelV (o.getD d) (u.getD d') := by
  cases o with
  | none => cases u with
    | none => exact rd
    | some _ => exact (show False from r).elim
  | some _ => cases u with
    | none => exact (show False from r).elim
    | some _ => exact r

theorem KV.val {kvs : List (κ × V)} {vs : List (κ × Value)} (r : KV kvs vs) (k : κ) : RelO (valV kvs k) (valueAt vs k) := by
  unfold KV at r
  induction r with
  | nil => exact True.intro
  | @cons p q ps qs h t ih =>
    obtain ⟨h1, h2⟩ := h
    by_cases e : p.1 = k
    · have e' : q.1 = k := h1.symm.trans e
      have b : valueAt (q :: qs) k = some q.2 := by simp [valueAt, List.find?_cons, e']
      rw [valV_pos e, b]; exact h2
    · have e' : ¬ q.1 = k := fun z => e (h1.trans z)
      have b : valueAt (q :: qs) k = valueAt qs k := by simp [valueAt, List.find?_cons, e']
      rw [valV_neg e, b]; exact ih
theorem KV.any {kvs : List (κ × V)} {vs : List (κ × Value)} (r : KV kvs vs) (k : κ) : (kvs.any fun kv => decide (kv.1 = k)) = vs.any fun kv => decide (kv.1 = k) := by
  unfold KV at r
  induction r with
  | nil => rfl
  | cons h t ih => rw [List.any_cons, List.any_cons, ih, h.1]
theorem KV.repl {kvs : List (κ × V)} {vs : List (κ × Value)} (r : KV kvs vs) (k : κ) {y : V} {u : Value} (ry : RelV y u) :
    KV (kvs.map fun kv => if kv.1 = k then (kv.1, y) else kv) (vs.map fun kv => if kv.1 = k then (kv.1, u) else kv) := by
  unfold KV at r ⊢
  induction r with
  | nil => exact .nil
  | @cons p q ps qs h t ih =>
    rw [List.map_cons, List.map_cons]
    refine .cons ?_ ih
    obtain ⟨h1, h2⟩ := h
    by_cases e : p.1 = k
    · rw [if_pos e, if_pos (h1.symm.trans e)]; exact ⟨h1, ry⟩
    · rw [if_neg e, if_neg (fun z => e (h1.trans z))]; exact ⟨h1, h2⟩
theorem KV.put {kvs : List (κ × V)} {vs : List (κ × Value)} (r : KV kvs vs) (k : κ) {y : V} {u : Value} (ry : RelV y u) : KV (putK kvs k y) (stored vs k u) := by
  unfold putK stored
  rw [r.any k]
  by_cases e : (vs.any fun kv => decide (kv.1 = k)) = true
  · rw [if_pos e, if_pos e]; exact r.repl k ry
  · rw [if_neg e, if_neg e]; exact Paired.snoc r ⟨rfl, ry⟩
theorem KV.length {kvs : List (κ × V)} {vs : List (κ × Value)} (r : KV kvs vs) : kvs.length = vs.length := Paired.length r
end


theorem kV_is {P : Program} {w : World} {k : Key} {u : Value} (r : RelV (kV k) u) : (mixKind P w).is k u = true := by
  cases k with
  | inl i => obtain ⟨t, e⟩ := (show ∃ t, u = Value.int i t from r); subst e; exact mixKind_int P w i t
  | inr x => obtain ⟨t, e⟩ := (show ∃ t, u = Value.str x t from r); subst e; exact mixKind_str P w x t
theorem items_are {P : Program} {w : World} : ∀ {ks : List Key} {us : List Value}, Vals (ks.map kV) us → ItemsAre (mixKind P w) ks us
  | [], _, r => by rw [List.map_nil] at r; cases r; exact .nil
  | k :: ks, _, r => by
    rw [List.map_cons] at r
    cases r with
    | cons h t => exact .cons (kV_is h) (items_are t)

noncomputable abbrev KT (H : Hp) : List (List Key × V) → List (List Key × Addr × Value) → Prop := Paired fun p q => p.1 = q.1 ∧ H q.2.1 = some (.tup (p.1.map kV)) ∧ RelV p.2 q.2.2
theorem KT.val {H : Hp} {kvs : List (List Key × V)} {xs : List (List Key × Addr × Value)} (r : KT H kvs xs) (k : List Key) : RelO (valV kvs k) ((atKey xs k).map (·.2)) := by
  induction r with
  | nil => exact True.intro
  | @cons p q ps qs h t ih =>
    obtain ⟨h1, _, h2⟩ := h
    by_cases e : p.1 = k
    · have e' : q.1 = k := h1.symm.trans e
      have b : atKey (q :: qs) k = some q.2 := by simp [atKey, List.find?_cons, e']
      rw [valV_pos e, b]; exact h2
    · have e' : ¬ q.1 = k := fun z => e (h1.trans z)
      have b : atKey (q :: qs) k = atKey qs k := by simp [atKey, List.find?_cons, e']
      rw [valV_neg e, b]; exact ih
theorem KT.repl {H : Hp} {kvs : List (List Key × V)} {xs : List (List Key × Addr × Value)} (r : KT H kvs xs) (k : List Key) {y : V} {u : Value} (ry : RelV y u) :
    KT H (kvs.map fun kv => if kv.1 = k then (kv.1, y) else kv) (xs.map (putAt k u)) := by
  induction r with
  | nil => exact .nil
  | @cons p q ps qs h t ih =>
    rw [List.map_cons, List.map_cons]
    refine .cons ?_ ih
    obtain ⟨h1, h2, h3⟩ := h
    unfold putAt
    by_cases e : p.1 = k
    · rw [if_pos e, if_pos (h1.symm.trans e)]; exact ⟨h1, h2, ry⟩
    · rw [if_neg e, if_neg (fun z => e (h1.trans z))]; exact ⟨h1, h2, h3⟩
theorem KT.put {H : Hp} {kvs : List (List Key × V)} {xs : List (List Key × Addr × Value)} (r : KT H kvs xs) (k : List Key) {b : Addr} {y : V} {u : Value} (hb : H b = some (.tup (k.map kV))) (ry : RelV y u) :
    KT H (putK kvs k y) (storedH xs k b u) := by
  have e : (kvs.any fun kv => decide (kv.1 = k)) = (atKey xs k).isSome := by
    rw [valV_any, (r.val k).isSome_eq, Option.isSome_map]
  unfold putK storedH
  rw [e]
  by_cases q : (atKey xs k).isSome = true
  · rw [if_pos q, if_pos q]; exact r.repl k ry
  · rw [if_neg q, if_neg q]; exact Paired.snoc r ⟨rfl, hb, ry⟩
theorem KT.keeps {H H' : Hp} {kvs : List (List Key × V)} {xs : List (List Key × Addr × Value)} (r : KT H kvs xs) (ht : ∀ b ys, H b = some (.tup ys) → H' b = some (.tup ys)) : KT H' kvs xs :=
  Paired.mapP r fun _ _ z => ⟨z.1, ht _ _ z.2.1, z.2.2⟩

section
variable {P : Program} {w : World} {H : Hp} {h : Heap} {a : Addr}
theorem rd_of {u : HO} (ok : HOk P w H h) (e : Rd H a u) : ObjOk P w H h a u := e.ok ok
theorem dk_rd {kvs : List (Key × V)} (ok : HOk P w H h) (e : Rd H a (.dK kvs)) : kvs.length ≤ sizeLine ∧ (a == sysModules) = false ∧ ∃ vs, KV kvs vs ∧ h.DictOf (mixKind P w) a vs :=
  show ObjOk P w H h a (.dK kvs) from rd_of ok e
theorem dk_of {kvs : List (Key × V)} (ok : HOk P w H h) (e : H a = some (.dK kvs)) : kvs.length ≤ sizeLine ∧ (a == sysModules) = false ∧ ∃ vs, KV kvs vs ∧ h.DictOf (mixKind P w) a vs := dk_rd ok (.inl e)
theorem key_of {ks : List Key} (ok : HOk P w H h) (e : H a = some (.tup (ks.map kV))) : (tupleKind (mixKind P w)).is h ks a := by
  obtain ⟨_, its, r, o, h1, h2, n, h3⟩ := (show ObjOk P w H h a (.tup (ks.map kV)) from ok a _ e)
  exact ⟨o, its.toArray, n, h1, h2, h3, by simpa using items_are r⟩
theorem dt_rd {kvs : List (List Key × V)} (ok : HOk P w H h) (e : Rd H a (.dT kvs)) : kvs.length ≤ sizeLine ∧ (a == sysModules) = false ∧
    ∃ xs, KT H kvs xs ∧ h.DictOfH (tupleKind (mixKind P w)) a xs := by
  obtain ⟨z, y, xs, r, o, es, ep, h1, h2, h3, h4, h5⟩ := (show ObjOk P w H h a (.dT kvs) from rd_of ok e)
  refine ⟨z, y, xs, r, o, es, ep, h1, h2, h3, h4, fun x hx => ?_, h5⟩
  have all : ∀ {l : List (List Key × V)} {m : List (List Key × Addr × Value)}, KT H l m → ∀ x ∈ m, (tupleKind (mixKind P w)).is h x.1 x.2.1 := by
    intro l m q
    induction q with
    | nil => intro x hx; exact nomatch hx
    | @cons p q ps qs hq t ih =>
      intro x hx
      rcases List.mem_cons.mp hx with e | hx
      · subst e
        exact key_of ok (by rw [← hq.1]; exact hq.2.1)
      · exact ih x hx
  exact all r x hx
theorem dt_of {kvs : List (List Key × V)} (ok : HOk P w H h) (e : H a = some (.dT kvs)) : kvs.length ≤ sizeLine ∧ (a == sysModules) = false ∧
    ∃ xs, KT H kvs xs ∧ h.DictOfH (tupleKind (mixKind P w)) a xs := dt_rd ok (.inl e)
end

noncomputable def DGet (H : Hp) (a : Addr) (y : V) (r : Option V) : Prop :=
  (∃ kvs k, Rd H a (.dK kvs) ∧ y = kV k ∧ r = valV kvs k) ∨ ∃ kvs k b, Rd H a (.dT kvs) ∧ y = .ref b ∧ H b = some (.tup (k.map kV)) ∧ r = valV kvs k
noncomputable def DPut (H : Hp) (a : Addr) (y v : V) (H' : Hp) : Prop :=
  (∃ kvs k, H a = some (.dK kvs) ∧ y = kV k ∧ kvs.length < sizeLine ∧ H' = upd H a (.dK (putK kvs k v))) ∨
  ∃ kvs k b, H a = some (.dT kvs) ∧ y = .ref b ∧ H b = some (.tup (k.map kV)) ∧ kvs.length < sizeLine ∧ H' = upd H a (.dT (putK kvs k v))
theorem DGet.k {H : Hp} {a : Addr} {kvs : List (Key × V)} {k : Key} (e : H a = some (.dK kvs)) : DGet H a (kV k) (valV kvs k) := .inl ⟨kvs, k, .inl e, rfl, rfl⟩
theorem DPut.k {H : Hp} {a : Addr} {kvs : List (Key × V)} {k : Key} {v : V} (e : H a = some (.dK kvs)) (hl : kvs.length < sizeLine) : DPut H a (kV k) v (upd H a (.dK (putK kvs k v))) := .inl ⟨kvs, k, e, rfl, hl, rfl⟩


section
variable {X : Cx} {pins : List (Addr × Obj)} {σ : St} {H : Hp} {s : Shared} {a : Addr} {y v : V} {u r : Value} {o : Option V} {A : Around} {E : Value → Shared → Prop}

theorem Inv.big (I : Inv X pins σ H s) : sysModules < s.heap.objs.size := by
  have h : mainGlobals < s.heap.objs.size := (I.mod.glob.keeps I.bk).lt
  exact Nat.lt_trans (by decide) h

theorem d_getItem {Q : Value → Shared → Prop} (hu : A.units + 1 < cLine) (I : Inv X pins σ H s) (g : DGet H a y (some v)) (ry : RelV y u) (h : ∀ w' s', Inv X pins σ H s' → RelV v w' → Q w' s') :
    wpAny (model X.prog X.w) A (getItem (.ref a) u) Q E s := by
  rcases g with ⟨kvs, k, e, ey, l⟩ | ⟨kvs, k, b, e, ey, eb, l⟩
  · subst ey
    obtain ⟨z, hd, vs, rel, dd⟩ := dk_rd I.hok e
    obtain ⟨w', hw, rw'⟩ := RelO.some_of (v := v) (o := valueAt vs k) (by rw [l]; exact rel.val k)
    exact wpAny_getItem_of (kV_is ry) dd.mapOf hw (h w' _ (I.tok _) rw')
  · subst ey
    cases (show u = Value.ref b from ry)
    obtain ⟨z, hd, xs, rel, dd⟩ := dt_rd I.hok e
    obtain ⟨w', hw, rw'⟩ := RelO.some_of (v := v) (o := (atKey xs k).map (·.2)) (by rw [l]; exact rel.val k)
    obtain ⟨p, hp, hp2⟩ := Option.map_eq_some_iff.mp hw
    refine wpAny_getItem_heap (tupleKind_room_in1 hu) (key_of I.hok eb) dd hp ?_
    rw [hp2]
    exact h w' _ (I.tok _) rw'
theorem d_in {Q : Value → Shared → Prop} (hu : A.units + 1 < cLine) (I : Inv X pins σ H s) (g : DGet H a y o) (ry : RelV y u) (h : ∀ s', Inv X pins σ H s' → Q (.bool o.isSome) s') :
    wpAny (model X.prog X.w) A (compareOp .In u (.ref a)) Q E s := by
  rcases g with ⟨kvs, k, e, ey, l⟩ | ⟨kvs, k, b, e, ey, eb, l⟩
  · subst ey
    obtain ⟨z, hd, vs, rel, dd⟩ := dk_rd I.hok e
    refine wpAny_in_of (kV_is ry) hd dd.mapOf ?_
    rw [← (rel.val k).isSome_eq, ← l]
    exact h _ (I.tok _)
  · subst ey
    cases (show u = Value.ref b from ry)
    obtain ⟨z, hd, xs, rel, dd⟩ := dt_rd I.hok e
    refine wpAny_in_heap (tupleKind_room_in1 hu) (key_of I.hok eb) hd dd ?_
    have q := (rel.val k).isSome_eq
    rw [Option.isSome_map] at q
    rw [← q, ← l]
    exact h _ (I.tok _)
theorem d_notIn {Q : Value → Shared → Prop} (hu : A.units + 1 < cLine) (I : Inv X pins σ H s) (g : DGet H a y o) (ry : RelV y u) (h : ∀ s', Inv X pins σ H s' → Q (.bool (!o.isSome)) s') :
    wpAny (model X.prog X.w) A (compareOp .NotIn u (.ref a)) Q E s := by
  rcases g with ⟨kvs, k, e, ey, l⟩ | ⟨kvs, k, b, e, ey, eb, l⟩
  · subst ey
    obtain ⟨z, hd, vs, rel, dd⟩ := dk_rd I.hok e
    refine wpAny_notIn_of (kV_is ry) hd dd.mapOf ?_
    rw [← (rel.val k).isSome_eq, ← l]
    exact h _ (I.tok _)
  · subst ey
    cases (show u = Value.ref b from ry)
    obtain ⟨z, hd, xs, rel, dd⟩ := dt_rd I.hok e
    refine wpAny_notIn_heap (tupleKind_room_in1 hu) (key_of I.hok eb) hd dd ?_
    have q := (rel.val k).isSome_eq
    rw [Option.isSome_map] at q
    rw [← q, ← l]
    exact h _ (I.tok _)
theorem d_write {h' : Heap} {t' : Nat} {ob : HO} (I : Inv X pins σ H s) (mu : Mut (H a)) (hs : Heap.SameBut a s.heap h') (he : ∃ q, h'.get? a = some q) (new : ObjOk X.prog X.w (upd H a ob) h' a ob) :
    Inv X pins σ (upd H a ob) { s with heap := h', toks := t' } :=
  I.write (x := a) (e := a) mu (.inl rfl) (fun b q hb z => (hs.2 b hb).trans z) he new
theorem dk_new {P : Program} {w : World} {H' : Hp} {h' : Heap} {kvs : List (Key × V)} {vs : List (Key × Value)} (z : kvs.length ≤ sizeLine) (hd : (a == sysModules) = false) (rel : KV kvs vs) (dd : h'.DictOf (mixKind P w) a vs) :
    ObjOk P w H' h' a (.dK kvs) := ⟨z, hd, vs, rel, dd⟩
theorem d_setItem {H' : Hp} {Q : Unit → Shared → Prop} (hu : A.units + 1 < cLine) (I : Inv X pins σ H s) (g : DPut H a y v H') (ry : RelV y u) (rv : RelV v r) (h : ∀ s', Inv X pins σ H' s' → Q () s') :
    wpAny (model X.prog X.w) A (setItem (.ref a) u r) Q E s := by
  rcases g with ⟨kvs, k, e, ey, l, eH⟩ | ⟨kvs, k, b, e, ey, eb, l, eH⟩
  · subst ey eH
    obtain ⟨z, hd, vs, rel, dd⟩ := dk_of I.hok e
    have hz : vs.length ≤ sizeLine := by rw [← rel.length]; exact z
    have hl : (putK kvs k v).length ≤ sizeLine := by have := length_putK kvs k v; omega
    refine wpAny_setItem_pairs (hsz := hz) (kV_is ry) dd fun h' dd' hs => h _ ?_
    have he : ∃ q, h'.get? a = some q := let ⟨q, _, _, hq, _⟩ := dd'; ⟨q, hq⟩
    exact d_write I (by rw [e]; exact True.intro) hs he (dk_new hl hd (rel.put k rv) dd')
  · subst ey eH
    cases (show u = Value.ref b from ry)
    obtain ⟨z, hd, xs, rel, dd⟩ := dt_of I.hok e
    have hz : xs.length ≤ sizeLine := by rw [← Paired.length rel]; exact z
    have hl : (putK kvs k v).length ≤ sizeLine := by have := length_putK kvs k v; omega
    refine wpAny_setItem_heap (hsz := hz) (tupleKind_room_in1 hu) (key_of I.hok eb) dd fun h' dd' hs => h _ ?_
    obtain ⟨q, es, ep, hq, h2, h3, h4, _, h5⟩ := dd'
    refine d_write I (by rw [e]; exact True.intro) hs ⟨q, hq⟩ ⟨hl, hd, _, (rel.put k eb rv).keeps fun c ys ec => ?_, q, es, ep, hq, h2, h3, h4, h5⟩
    rw [upd_ne (ne_of ec e (fun z => nomatch z))]
    exact ec
end

section
variable {X : Cx} {pins : List (Addr × Obj)} {σ : St} {H : Hp} {s : Shared} {a : Addr} {kvs : List (Key × V)} {k : Key} {u : Value} {A : Around} {E : Value → Shared → Prop}
theorem d_len {Q : Value → Shared → Prop} (I : Inv X pins σ H s) (e : Rd H a (.dK kvs)) (h : ∀ t s', Inv X pins σ H s' → Q (.int kvs.length t) s') : wpAny (model X.prog X.w) A (call (.builtin "len") [.ref a]) Q E s := by
  obtain ⟨z, hd, vs, rel, dd⟩ := dk_rd I.hok e
  refine call_len_dict hd dd (by rw [← rel.length]; rw [sizeLine_eq] at z; omega) ?_
  rw [← rel.length]
  exact h _ _ (I.tok _)
end


noncomputable def NoSl (i : Expr) : Prop := ∀ ov iv, subscripted i false ov iv = operate [ov, iv] (getItem ov iv)
theorem subD_of {prog : Program} {w : World} {A : Around} {E : Value → Shared → Prop} {s : Shared} {env : Env} {value slice : Expr} {pos : Pos} {T id : String} {Q : Value → Shared → Prop}
    (hl : typeLookup (.type T) "__getitem__" = pure (some (.builtin id))) (hs : NoSl slice)
    (h : wpAny (model prog w) A (eval value env) (fun o s₁ => wpAny (model prog w) A (eval slice env) (fun i s₂ => s₂.TypeIs o T ∧ wpAny (model prog w) A (getItem o i) Q E s₂) E s₁) E s) :
    wpAny (model prog w) A (eval (.Subscript value slice pos) env) Q E s := by
  refine Subscript_ (wpAny_mono h (fun o s₁ h₁ => wpAny_mono h₁ (fun i s₂ h₂ => ?_) fun _ _ x => x) fun _ _ x => x)
  obtain ⟨hT, h₂⟩ := h₂
  unfold subscriptTail
  refine wpAny_bind ?_
  rw [getitemInPython_of_ne hT.not_modules]
  refine wpAny_bind (wpAny_specialOf hT hl ?_)
  have fin : wpAny (model prog w) A (subscripted slice false o i) (fun r s₃ => wpAny (model prog w) A (letTemporaryGo value o r >>= fun _ => pure r) Q E s₃) E s₂ := by
    rw [hs o i]
    exact wpAny_operating (wpAny_mono h₂ (fun r s₃ h₃ => wpAny_bind (wpAny_letTemporaryGo (wpAny_pure h₃))) fun _ _ x => x)
  first
    | exact wpAny_pure (wpAny_bind fin)
    | exact wpAny_bind (wpAny_pure (wpAny_bind fin))
    | exact wpAny_bind fin

theorem dict_typeIs {X : Cx} {pins : List (Addr × Obj)} {σ : St} {H : Hp} {s : Shared} {a : Addr} {y : V} {o : Option V} (I : Inv X pins σ H s) (g : DGet H a y o) : s.TypeIs (.ref a) "dict" := by
  rcases g with ⟨kvs, k, e, _, _⟩ | ⟨kvs, k, b, e, _, _, _⟩
  · obtain ⟨_, _, vs, _, dd⟩ := dk_rd I.hok e
    exact dd.typeIs
  · obtain ⟨_, _, xs, _, dd⟩ := dt_rd I.hok e
    exact dd.typeIs

inductive IsGet (x y : V) (H : Hp) (Q : VK) : Prop
  | mk (a : Addr) (v : V) (h1 : x = .ref a) (h2 : DGet H a y (some v)) (q : Q v H)
inductive IsInD (x y : V) (H : Hp) (Q : Option V → Hp → Prop) : Prop
  | mk (a : Addr) (o : Option V) (h1 : x = .ref a) (h2 : DGet H a y o) (q : Q o H)
noncomputable def tDGet (td ty : TE) : TE := fun σ H Q => td σ H fun x H1 => ty σ H1 fun y H2 => IsGet x y H2 Q
noncomputable def tDIn (ty td : TE) : TE := fun σ H Q => ty σ H fun y H1 => td σ H1 fun x H2 => IsInD x y H2 fun o H2 => Q (.bl o.isSome) H2
noncomputable def tDNotIn (ty td : TE) : TE := fun σ H Q => ty σ H fun y H1 => td σ H1 fun x H2 => ∃ a o, x = .ref a ∧ DGet H2 a y o ∧ Q (.bl (!o.isSome)) H2
inductive IsDPut (x y v : V) (H3 : Hp) (R : Hp → Prop) : Prop
  | mk (a : Addr) (H4 : Hp) (h1 : x = .ref a) (h2 : DPut H3 a y v H4) (q : R H4)
noncomputable def sDPut (td ty tv : TE) : TS := fun D σ H => tv σ H fun v H1 => td σ H1 fun x H2 => ty σ H2 fun y H3 => IsDPut x y v H3 (D.nx σ)

section
variable {X : Cx} {o i e value : Expr} {pos pos' tpos : Pos} {td ty tv : TE}
theorem pe_dget (hu : X.A.units + 1 < cLine) (ho : PE X o td) (hi : PE X i ty) (hs : NoSl i) : PE X (.Subscript o i pos) (tDGet td ty) := by
  intro pins s σ H Q I h
  refine subD_of PySem.F.slot_dict_getitem.lookup hs (thn (ho pins s σ H _ I h) fun u s1 ⟨x, H1, I1, rx, q1⟩ => thn (hi pins s1 σ H1 _ I1 q1) fun iv s2 ⟨y, H2, I2, ry, a, v, ex, g, q2⟩ => ?_)
  subst ex
  obtain rfl : u = Value.ref a := rx
  exact ⟨dict_typeIs I2 g, d_getItem hu I2 g ry fun w' s3 I3 rw' => ⟨v, H2, I3, rw', q2⟩⟩
theorem pc_din (hu : X.A.units + 1 < cLine) (hi : PE X i ty) (ho : PE X o td) : PC X .In i o (tDIn ty td) := by
  intro pins s σ H Q I h
  refine thn (hi pins s σ H _ I h) fun iv s1 ⟨y, H1, I1, ry, q1⟩ => thn (ho pins s1 σ H1 _ I1 q1) fun u s2 ⟨x, H2, I2, rx, a, ov, ex, g, q2⟩ => ?_
  subst ex
  obtain rfl : u = Value.ref a := rx
  exact d_in hu I2 g ry fun s3 I3 => ⟨.bl ov.isSome, H2, I3, rfl, q2⟩
theorem pc_dnotin (hu : X.A.units + 1 < cLine) (hi : PE X i ty) (ho : PE X o td) : PC X .NotIn i o (tDNotIn ty td) := by
  intro pins s σ H Q I h
  refine thn (hi pins s σ H _ I h) fun iv s1 ⟨y, H1, I1, ry, q1⟩ => thn (ho pins s1 σ H1 _ I1 q1) fun u s2 ⟨x, H2, I2, rx, a, ov, ex, g, q2⟩ => ?_
  subst ex
  obtain rfl : u = Value.ref a := rx
  exact d_notIn hu I2 g ry fun s3 I3 => ⟨.bl (!ov.isSome), H2, I3, rfl, q2⟩
theorem ps_dput (hu : X.A.units + 1 < cLine) (ho : PE X o td) (hi : PE X i ty) (hv : PE X value tv) (hs : swapsWith value (some (.Subscript o i pos')) pos.line X.env = pure false) :
    PS X (.Assign [.Subscript o i pos'] value pos) (sDPut td ty tv) := by
  intro pins s σ H D I h
  refine wpAny_Assign_Subscript (thn (hv pins s σ H _ I h) fun r s1 ⟨v, H1, I1, rv, q1⟩ => thn (ho pins s1 σ H1 _ I1 q1) fun u s2 ⟨x, H2, I2, rx, q2⟩ => thn (hi pins s2 σ H2 _ I2 q2) fun iv s3 ⟨y, H3, I3, ry, a, H4, ex, g, q3⟩ => ?_) hs
  subst ex
  obtain rfl : u = Value.ref a := rx
  exact d_setItem hu I3 g ry rv fun s4 I4 => ⟨σ, H4, I4, q3⟩
end


theorem dk_empty {P : Program} {w : World} {H : Hp} (h : Heap) (hb : sysModules < h.objs.size) : ObjOk P w H (h.push { cls := .type "dict", data := .dict #[] }) h.objs.size (.dK []) :=
  ⟨Nat.zero_le _, beq_eq_false_iff_ne.mpr (Ne.symm (Nat.ne_of_lt hb)), [], .nil, Heap.DictOf.new h⟩
noncomputable def tDNewK : TE := fun _ H Q => ∀ p, H p = none → Q (.ref p) (upd H p (.dK []))
section
variable {X : Cx} {pos : Pos}
theorem pe_dnewK : PE X (.Dict [] [] pos) tDNewK := fun pins s σ H Q I h =>
  wpAny_Dict_empty ⟨.ref s.heap.objs.size, _, I.laid (a := s.heap.objs.size) (o := .dK []) (t' := s.toks) (fun _ _ q => Heap.get?_push_of_some _ q) (Nat.le_refl _) (dk_empty s.heap I.big), rfl, h _ (I.hok.fresh (Nat.le_refl _))⟩
end




structure M1 (X : Cx) (o : Expr) (m : Str) (apos : Pos) (e : Expr) (cpos : Pos) : Prop where
  base : attributeBase o m X.env (eval o X.env) = eval o X.env
  few : ((backTo cpos (starEach [e] X.env)).all (fun x => !x.1) && (backToKw cpos (keywordEach [] X.env)).all (fun x => x.1.isSome)
    && decide (([e] : List Expr).length + ([] : List Keyword).length + (if ([] : List Keyword).isEmpty then 0 else 1) < 30)) = true
  line : (apos.endLine == cpos.line) = true
  trees : backTo cpos (starEach [e] X.env) = [(false, eval e X.env)]

noncomputable def IsD (H : Hp) (a : Addr) : Prop := (∃ kvs, Rd H a (.dK kvs)) ∨ ∃ kvs, Rd H a (.dT kvs)
theorem isD_at {X : Cx} {pins : List (Addr × Obj)} {σ : St} {H : Hp} {s : Shared} {a : Addr} (I : Inv X pins σ H s) (d : IsD H a) :
    s.TypeIs (.ref a) "dict" ∧ (∀ b, Value.ref a = .ref b → ∃ ob, s.heap.get? b = some ob ∧ ob.dict = none) ∧ (a == sysModules) = false := by
  rcases d with ⟨kvs, e⟩ | ⟨kvs, e⟩
  · obtain ⟨_, hd, vs, _, dd⟩ := dk_rd I.hok e
    refine ⟨dd.typeIs, fun b q => ?_, hd⟩
    cases q
    obtain ⟨ob, _, _, h1, h2, _⟩ := dd
    exact ⟨ob, h1, h2.2.1⟩
  · obtain ⟨_, hd, xs, _, dd⟩ := dt_rd I.hok e
    refine ⟨dd.typeIs, fun b q => ?_, hd⟩
    cases q
    obtain ⟨ob, _, _, h1, h2, _⟩ := dd
    exact ⟨ob, h1, h2.2.1⟩

section
variable {X : Cx} {pins : List (Addr × Obj)} {σ : St} {H : Hp} {s : Shared} {a : Addr} {y d : V} {u r : Value} {o : Option V} {A : Around} {E : Value → Shared → Prop}
theorem d_get1 {Q : Value → Shared → Prop} (hu : A.units + 1 < cLine) (I : Inv X pins σ H s) (g : DGet H a y o) (ry : RelV y u) (h : ∀ w' s', Inv X pins σ H s' → RelV (o.getD .non) w' → Q w' s') :
    wpAny (model X.prog X.w) A (call (.builtin "dict.get") [.ref a, u]) Q E s := by
  rcases g with ⟨kvs, k, e, ey, l⟩ | ⟨kvs, k, b, e, ey, eb, l⟩
  · subst ey
    obtain ⟨z, hd, vs, rel, dd⟩ := dk_rd I.hok e
    refine call_meetsIn PySem.F.slot_dict_get dd.typeIs PySem.F.entry_dict_get (PySem.F.args_dict_get_2 _ _) (meets_dict_get (mixKind X.prog X.w) a (kV_is ry) hd) ⟨_, dd.mapOf, h _ _ (I.tok _) ?_⟩
    rw [l]
    exact (rel.val k).getD rfl
  · subst ey
    cases (show u = Value.ref b from ry)
    obtain ⟨z, hd, xs, rel, dd⟩ := dt_rd I.hok e
    refine call_meetsIn PySem.F.slot_dict_get dd.typeIs PySem.F.entry_dict_get (PySem.F.args_dict_get_2 _ _) (meetsH_dict_get (tupleKind (mixKind X.prog X.w)) a b hd) ⟨tupleKind_room_in1 hu, k, xs, key_of I.hok eb, dd, h _ _ (I.tok _) ?_⟩
    rw [l]
    exact (rel.val k).getD rfl
end

noncomputable def tDGet1 (td ty : TE) : TE := fun σ H Q => td σ H fun x H1 => ∃ a, x = .ref a ∧ IsD H1 a ∧ ty σ H1 fun y H2 => ∃ o, DGet H2 a y o ∧ Q (o.getD .non) H2
section
variable {X : Cx} {o e f : Expr} {apos cpos : Pos} {td ty tx : TE}
theorem pe_dget1 (hu : X.A.units + 1 < cLine) (ho : PE X o td) (he : PE X e ty) (m : M1 X o "get" apos e cpos) : PE X (.Call (.Attribute o "get" apos) [e] [] cpos) (tDGet1 td ty) := by
  intro pins s σ H Q I h
  refine wpAny_Call_method m.base m.few m.line PySem.F.plainAttrs_dict PySem.F.slot_dict_get PySem.F.type_dict_get (thn (ho pins s σ H _ I h) fun u s1 ⟨x, H1, I1, rx, a, ex, d, q1⟩ => ?_)
  subst ex
  obtain rfl : u = Value.ref a := rx
  obtain ⟨t1, t2, _⟩ := isD_at I1 d
  refine ⟨t1, t2, ?_⟩
  rw [m.trees]
  refine Calls.callWith_builtin rfl (Calls.evalArgs_plain (Calls.spliced_cons (thn (he pins s1 σ H1 _ I1 q1) fun iv s2 ⟨y, H2, I2, ry, ov, g, q2⟩ => Calls.spliced_nil ?_)))
  exact d_get1 hu I2 g ry fun w' s3 I3 rw' => ⟨_, H2, I3, rw', q2⟩
end

section
variable {X : Cx} {pins : List (Addr × Obj)} {σ : St} {H : Hp} {s : Shared} {a : Addr} {kvs : List (Key × V)} {A : Around} {E : Value → Shared → Prop}
end


section
variable {X : Cx} {pins : List (Addr × Obj)} {σ : St} {H : Hp} {s : Shared} {a : Addr} {y : V} {u : Value} {A : Around} {E : Value → Shared → Prop}
end
end L2

namespace Att
open PySem PySem.W PySem.Calls PyProof.Rows

theorem ints_of_wellAll {P : Params} {h : Heap} : ∀ (ns : List Int) (vs : List Value), WellAll P h vs (ns.map WData.int) → IntsAre vs ns := by
  intro ns
  induction ns with
  | nil =>
    intro vs w
    rw [List.map_nil] at w
    cases w
    exact .nil
  | cons n ns ih =>
    intro vs w
    rw [List.map_cons] at w
    cases w with
    | cons a b =>
      cases a
      exact .cons _ _ (ih _ b)

theorem script_of {l : OpenLaw} {n : Nat} (hn : l.most = some n) {P : Params} {h : Heap} {args : List WData} {vals : List Value}
    (hpre : l.row.toRowW.claim.pre args = true) (hwl : WellAll P h vals args) :
    ∃ a vs ns, vals = [Value.ref a] ∧ args = [WData.list (ns.map WData.int)] ∧ h.get? a = some { cls := .type "list", data := .seq vs.toArray } ∧ IntsAre vs ns ∧ ns.length ≤ n := by
  have hsh : WShape.hasAll [] args [.list .int] = true := (pre_splitW hpre).1
  have hc : l.pre.holds [] { args := args } = true := (pre_splitW hpre).2
  obtain ⟨d, r, rfl, h1, h2⟩ := hasAllW_cons hsh
  obtain rfl := hasAllW_nil h2
  obtain ⟨xs, rfl, h3⟩ := hasW_list h1
  obtain ⟨ns, rfl⟩ := items_int h3
  have hlen : ns.length ≤ n := by
    unfold OpenLaw.pre at hc
    have h4 : (WTm.not (.lt (.lit (.int (n : Int))) (.len (.arg 0)))).holds [] { args := [.list (ns.map .int)] } = true := by
      have h4 := (holds_andW hc).1
      rw [hn] at h4
      exact h4
    have h5 := condW_of h4 (w_not (w_lt w_lit (w_len_list (w_arg rfl))))
    rw [List.length_map] at h5
    refine Nat.le_of_not_lt fun q => ?_
    have q' : (n : Int) < ((ns.length : Nat) : Int) := by omega
    first
      | (rw [decide_eq_true q'] at h5; exact absurd h5 (by decide))
      | (simp at h5; omega)
  cases hwl with
  | cons w1 w2 =>
    cases w2
    cases w1 with
    | list ho hall => exact ⟨_, _, ns, rfl, rfl, ho, ints_of_wellAll ns _ hall, hlen⟩

theorem post_true (l : OpenLaw) (args : List WData) : l.row.toRowW.claim.post args (.bool true) args = true :=
  postW_of (r := l.row.toRowW) (X := (true == true))
    (show WShape.has [] (.bool true) .bool = true by first | rfl | decide | simp [WShape.has, WShape.arms, WShape.armsAll])
    (show (WTm.eq .res (.lit (.bool true))).value [] { args := args, res := some (.bool true), after := args } = some (.bool (true == true)) from w_eq_bool (w_res rfl) w_lit) rfl


theorem attach_call {l : OpenLaw} {n : Nat} {q : Program} {loose : List Str} {XP : (Str → Option Value) → Heap → Prop} {YP : World → Heap → Prop} {d : DefRec}
    (hn : l.most = some n) (hdf : d.params.defaults = [])
    (call : ∀ (w : World) (s₀ s₁ : Shared) (mg mb : Str → Option Value) (fa : Addr) (o : Obj) (pm cd doc : Value) (a : Addr) (vs : List Value) (ns : List Int),
      Ground q loose [] XP w s₀ mg mb s₁.heap → YP w s₁.heap →
      s₁.heap.get? fa = some o → o.data = .func (docDef d.name d.params d.body d.scope pm cd doc) → s₁.heap.CodeRec cd d.name → mg d.name = some (.ref fa) →
      s₁.heap.get? a = some { cls := .type "list", data := .seq vs.toArray } → IntsAre vs ns → ns.length ≤ n → s₁.gens = #[] →
      codeAny (model l.prog w) callerA (.call (.ref fa) ⟨[.ref a], []⟩) (fun r s' => r = .ok (.ret (.bool true)) ∧ OldK s₁.heap s'.heap ∧ s'.os = s₁.os ∧ AllBare s'.gens) s₁) :
    WalkO q loose XP YP l.row.toRowW d [] (fun f vs => PySem.call f vs) := by
  intro w s₀ s₁ mg mb G Y fa o pm cd doc dV kV ho hd hcd hD hmg hg args vals as hpre hlay hrd hwl hlo
  obtain rfl : dV = .none := Dflts.none hD hdf
  obtain rfl : kV = .none := Dflts.noKw hD
  obtain ⟨a, vs, ns, rfl, rfl, hobj, hints, hlen⟩ := script_of hn hpre hwl
  refine enter_call (codeAny_mono (call w s₀ s₁ mg mb fa o pm cd doc a vs ns G Y ho (fd_plain hd) hcd hmg hobj hints hlen hg) fun r s' hq => ?_)
  obtain ⟨rfl, h2, h3, h4⟩ := hq
  exact ⟨.inl ⟨.bool true, .bool true, [], rfl, fun _ => rfl, .bool true, post_true l _, fun _ => ⟨List.Pairwise.nil, fun _ hm => (nomatch hm)⟩⟩, h2, h3, h4⟩


section
variable {prog : Program} {w : World} {A : Around} {E : Value → Shared → Prop} {s : Shared} {K : Frag}






end
end Att

namespace L2
open PySem PySem.Spec PyProof.Rows

theorem vals_ints : ∀ {vs : List Value} {ns : List Int}, IntsAre vs ns → Vals (ns.map V.int) vs
  | _, _, .nil => .nil
  | _, _, .cons n t h => .cons ⟨t, rfl⟩ (vals_ints h)


end L2

namespace L2
open PySem PySem.Spec PyProof.Rows


end L2



namespace L2
open PySem PySem.Spec PyProof.Rows

noncomputable def inClass (s : Stmt) (j : Nat) : Stmt := match s with
  | .ClassDef _ _ _ body _ _ _ _ _ _ _ => body.getD j (.Pass ⟨0, 0, 0, 0⟩)
  | _ => .Pass ⟨0, 0, 0, 0⟩
noncomputable def defArgs (s : Stmt) : Arguments := match s with
  | .FunctionDef _ a _ _ _ _ _ _ _ _ => a
  | _ => { posonlyargs := [], args := [], vararg := none, kwonlyargs := [], kw_defaults := [], kwarg := none, defaults := [] }
noncomputable def defBody (s : Stmt) : List Stmt := match s with
  | .FunctionDef _ _ b _ _ _ _ _ _ _ => b
  | _ => []
noncomputable def defScope (s : Stmt) : Scope := match s with
  | .FunctionDef _ _ _ _ _ _ sc _ _ _ => sc
  | _ => { kind := .function, names := [], isGenerator := false, isCoroutine := false }

noncomputable abbrev CX0 : CXT := fun _ _ _ _ _ _ => False
noncomputable abbrev E0 : XK := fun _ _ _ => False
theorem pass0 {X : Cx} : Passes CX0 X E0 := fun _ _ _ _ _ _ _ h => h.elim

structure Fun (K : PySem.W.Frag) (x qual : Str) (st : Stmt) (f : Addr) (fd : FuncData) : Prop where
  ex : ∃ (oc : Value) (od : Option Addr) (kV doc pm : Value) (an : Option Addr) (cdv ct : Value) (osl : Array (Option Value)),
    fd = PySem.W.fnOf x qual (defArgs st) (defBody st) (defScope st) .none kV doc pm an cdv ct ∧ K.lookup f = some ⟨oc, od, .func fd, osl⟩ ∧ PySem.W.codeIn K cdv qual = true
  kp : PySem.W.keepIn K (.ref f) = true
section
variable {P : Program} {w : World} {K : PySem.W.Frag} {mg : Str → Option Value} {base : Heap}
theorem Fun.ok {x qual : Str} {st : Stmt} {f : Addr} {fd : FuncData} {N ps : List Str} {k : Nat} {sp : Sp} (F : Fun K x qual st f fd) (S : FnScope N ps (defScope st)) (len : ∀ vs H Q E, sp vs H Q E → vs.length = ps.length)
    (hbody : ∀ (cdv : Value) (A : Around) (outer : List Env) (s : Shared) (H : Hp) (vs : List V) (Q : VK) (E : XK), Room k (A.deeper (envOfC qual (defScope st) s.heap.objs.size f cdv)) → sp vs H Q E →
      ∃ t, PSs (cxOf CX0 P w K mg base N qual (defScope st) f cdv A outer s H E).nox (defBody st) t ∧ t { nx := fun _ H' => Q .non H', rt := Q } (start N vs) H) : FnOk P w K mg base CX0 (k + 1) f fd ps sp := by
  obtain ⟨oc, od, kV, doc, pm, an, cdv, ct, osl, rfl, lk, hcd⟩ := F.ex
  refine fn_of lk hcd S len fun A outer s H vs Q E hr hsp => ?_
  obtain ⟨t, h, q⟩ := hbody cdv A outer s H vs Q E hr hsp
  exact ⟨t, h.nox, q⟩
theorem Fun.binds {x qual : Str} {st : Stmt} {f : Addr} {fd : FuncData} {ps : List Str} (F : Fun K x qual st f fd)
    (h : ∀ (kV doc pm : Value) (an : Option Addr) (cdv ct : Value) (us : List Value), us.length = ps.length → bindArgs (PySem.W.fnOf x qual (defArgs st) (defBody st) (defScope st) .none kV doc pm an cdv ct) ⟨us, []⟩ = pure (ps.zip us)) : Binds K fd ps [] := by
  obtain ⟨oc, od, kV, doc, pm, an, cdv, ct, osl, rfl, lk, hcd⟩ := F.ex
  exact .all (h kV doc pm an cdv ct)
theorem fun_mk {x qual : Str} {st : Stmt} {f : Addr} {oc : Value} {od an : Option Addr} {osl : Array (Option Value)} {kV doc pm cdv ct : Value} (l : K.lookup f = some ⟨oc, od, .func (PySem.W.fnOf x qual (defArgs st) (defBody st) (defScope st) .none kV doc pm an cdv ct), osl⟩)
    (c : PySem.W.codeIn K cdv qual = true) (k : PySem.W.keepIn K (.ref f) = true) : Fun K x qual st f (PySem.W.fnOf x qual (defArgs st) (defBody st) (defScope st) .none kV doc pm an cdv ct) := ⟨⟨oc, od, kV, doc, pm, an, cdv, ct, osl, rfl, l, c⟩, k⟩
end
theorem hu_of {A : Around} {k : Nat} (hr : Room k A) : A.units + 1 < cLine := Nat.lt_of_le_of_lt (Nat.add_le_add_left (by decide : 1 ≤ 64) _) hr.units
theorem small1000 {n : Nat} (h : n ≤ 1000) : n < sizeLine := Nat.lt_of_le_of_lt h (by decide)

section
variable {X : Cx}
theorem pv (i : Nat) {x : Str} {pos : Pos} (hN : X.N[i]? = some x := by rfl) (hv : Vis X.env.scope x := by first | exact Or.inl rfl | exact Or.inr (Or.inl rfl) | exact Or.inr (Or.inr rfl)) (hd : (x == ("__debug__" : Str)) = false := by decide)
    (hcd : (x == ("__classdict__" : Str)) = false := by decide) : PE X (.Name x pos) (tVar i) := pe_var hN hv hd hcd
end

theorem iteF {A B : Prop} (h : B) : if false = true then A else B := by
  rw [if_neg Bool.false_ne_true]
  exact h
theorem iteT {A B : Prop} (h : A) : if true = true then A else B := by
  rw [if_pos rfl]
  exact h
theorem ite2 {c A B : Prop} [Decidable c] (h1 : c → A) (h2 : ¬ c → B) : if c then A else B := by
  by_cases h : c
  · rw [if_pos h]
    exact h1 h
  · rw [if_neg h]
    exact h2 h

noncomputable def Same (H H' : Hp) : Prop := ∀ b o, H b = some o → H' b = some o
theorem Same.refl (H : Hp) : Same H H := fun _ _ h => h
theorem Same.trans {H H1 H2 : Hp} (a : Same H H1) (b : Same H1 H2) : Same H H2 := fun c o h => b c o (a c o h)
theorem Same.free {H H' : Hp} (e : Same H H') {l : Addr} (h : H' l = Option.none) : H l = Option.none := by
  cases q : H l with
  | none => rfl
  | some o =>
    rw [e l o q] at h
    cases h
theorem Same.seq {K : PySem.W.Frag} {H H' : Hp} {a : Addr} {xs : List V} (e : Same H H') (h : SqL K H a xs) : SqL K H' a xs := by
  rcases h with (h | ⟨o, h⟩) | h
  · exact .inl (.inl (e _ _ h))
  · exact .inl (.inr ⟨o, e _ _ h⟩)
  · exact .inr h

end L2


namespace L2
open PySem PySem.Spec PyProof.Rows
section
variable {X : Cx}
inductive LenD (xs : List V) (H : Hp) (Q : VK) : Prop
  | mk (a : _) (kvs : _) (h0_ : xs = [V.ref a]) (h1_ : H a = some (.dK kvs)) (h2_ : Q (.int kvs.length) H)
theorem call_lenD : CallR X (.builtin "len") LenD := by
  intro pins s σ H xs us Q I r h
  obtain ⟨a, kvs, rfl, ha, q⟩ := h
  obtain ⟨u, rfl, ru⟩ := vals1 r
  cases ru
  exact d_len I (.inl ha) fun t s' I' => ⟨.int kvs.length, H, I', ⟨t, rfl⟩, q⟩
end
section
variable {κ : Type} [DecidableEq κ]
end
end L2
namespace L2
open PySem PySem.Spec PyProof.Rows

noncomputable def signV (c : Nat) : V := .str ⟨#[c]⟩
noncomputable def Its (x : Str) : It := ⟨fun i _ => i < x.cps.size, fun i H v H' => H' = H ∧ ∃ c, x.cps[i]? = some c ∧ v = signV c, fun i _ => x.cps.size ≤ i⟩
theorem turn_str {P : Program} {w : World} {K : PySem.W.Frag} {tg : Expr} (n : String) (it : Addr) (x : Str) (t : Tok)
    (hn : n = "str_ascii_iterator" ∨ n = "str_iterator") : Turn P w K tg (Its x) [it] it (fun i h => h.IsStrIter it n x t i) where
  mem := by simp
  obj := fun i h st b hb => by
    have e : b = it := by simpa using hb
    subst e
    obtain ⟨o, e, c, d⟩ := st
    exact ⟨o, e, fun v z => by rw [d] at z; cases z⟩
  keep := fun i h h' st k => by
    obtain ⟨o, e, c, d⟩ := st
    exact ⟨o, k it (by simp) o e, c, d⟩
  item := by
    intro X hP hw hK hc i pins s σ H E I hf st hg
    subst hP hw hK
    obtain ⟨f0, f1, f2, f3, f4, f5⟩ := hf it (by simp)
    have hg' : i < x.cps.size := hg
    have hx : x.cps[i]? = some x.cps[i] := by simp [hg']
    have fin : ∀ h', h'.IsStrIter it n x t (i + 1) → Heap.SameBut it s.heap h' → ∃ u, some (Value.str ⟨#[x.cps[i]]⟩ s.toks) = some u ∧
      wpAny (model X.prog X.w) X.A (letOwnedTupleGo tg (.ref it) u) (fun _ s2 => ∃ x_1 H', Inv X pins σ H' s2 ∧ RelV x_1 u ∧ (Its x).yld i H x_1 H' ∧ s2.heap.IsStrIter it n x t (i + 1) ∧ ∀ b ∈ [it], H' b = none) E { s with heap := h', toks := s.toks + 1 } := fun h' st' sb => by
      have I1 : Inv X pins σ H { s with heap := h', toks := s.toks + 1 } := I.turned (fun b o hb e => (sb.2 b hb).trans e) f0 f1 f3 f4 f5
      obtain ⟨o, e, c, d⟩ := id st'
      refine ⟨_, rfl, go_of (s := { s with heap := h', toks := s.toks + 1 }) e c d (by rcases hn with rfl | rfl <;> decide) ⟨signV x.cps[i], H, I1, ⟨_, rfl⟩, ⟨rfl, _, hx, rfl⟩, st', fun b hb => (hf b hb).1⟩⟩
    rcases hn with rfl | rfl
    · exact wpAny_pyNext_ascii_item st hx fin
    · exact wpAny_pyNext_wide_item st hx fin
  done := by
    intro X hP hw hK hc i pins s σ H E I hf st hg
    subst hP hw hK
    obtain ⟨f0, f1, f2, f3, f4, f5⟩ := hf it (by simp)
    have hg' : x.cps.size ≤ i := hg
    have hx : x.cps[i]? = none := by simp [hg']
    rcases hn with rfl | rfl
    · exact wpAny_pyNext_ascii_end (I.ok.hd hc) st hx fun h' eb => ⟨rfl, I.turned (t' := s.toks) (fun b o hb e => eb b o hb e) f0 f1 f3 f4 f5⟩
    · exact wpAny_pyNext_wide_end (I.ok.hd hc) st hx fun h' eb => ⟨rfl, I.turned (t' := s.toks) (fun b o hb e => eb b o hb e) f0 f1 f3 f4 f5⟩
  self := fun _ _ _ _ _ st h => by
    rcases hn with rfl | rfl
    · exact wpAny_pyIter_striter_ascii st h
    · exact wpAny_pyIter_striter_wide st h
section
variable {X : Cx} {tg : Expr}
noncomputable def iStr (tl : TE) : TI := fun σ H R => tl σ H fun v H1 => ∃ x, v = .str x ∧ R (Its x) H1
theorem pi_str {l : Expr} {tl : TE} (hl : PE X l tl) : PI X tg l (iStr tl) := by
  intro pins s σ H R I h
  refine thn (hl pins s σ H _ I h) fun v s1 ⟨x, H1, I1, r1, q1⟩ => ?_
  obtain ⟨z, e, q⟩ := q1
  subst e
  obtain ⟨t, rfl⟩ := r1
  have fp : ∀ b ∈ [s1.heap.objs.size], FpOk X pins H1 b := fun b hb => by
    have e : b = s1.heap.objs.size := by simpa using hb
    subst e
    exact I1.fpOk (Nat.le_refl _) (I1.hok.fresh (Nat.le_refl _))
  cases ha : z.cps.all (· < 128)
  · exact wpAny_pyIter_wide ha ⟨s1.heap.objs.size, [s1.heap.objs.size], _, _, H1, rfl, I1.kept (t' := s1.toks) fun b o e => Heap.get?_push_of_some _ e, turn_str "str_iterator" _ z t (.inr rfl), ⟨_, Heap.get?_push_size _ rfl, rfl, rfl⟩, fp, q⟩
  · exact wpAny_pyIter_ascii ha ⟨s1.heap.objs.size, [s1.heap.objs.size], _, _, H1, rfl, I1.kept (t' := s1.toks) fun b o e => Heap.get?_push_of_some _ e, turn_str "str_ascii_iterator" _ z t (.inl rfl), ⟨_, Heap.get?_push_size _ rfl, rfl, rfl⟩, fp, q⟩
end

theorem comp_loop {prog : Program} {w : World} {A : Around} {R : Result → Shared → Prop} {s : Shared} {elt target iter : Expr} {ifs : List Expr} {scope : Scope} {pos : Pos} {it acc : Value} {env : Env} (I : Nat → Shared → Prop)
    (turn : ∀ n s, I n s → wpAny (model prog w) A (pyNext it) (fun r s₁ => match r with
      | none => R (.ok .next) s₁
      | some v => wpAny (model prog w) A (letOwnedTupleGo target it v) (fun _ s₁' => wpAny (model prog w) A (assign target env v) (fun _ s₂ =>
          wpAny (model prog w) A (forIn ifs true fun c r => if r = true then do let ok ← isTrue c env (eval c env); pure (ForInStep.yield ok) else pure (ForInStep.yield r)) (fun ok s₃ =>
            if ok = true then wpAny (model prog w) A (eval elt env) (fun x s₄ =>
              wpAny (model prog w) A (call (.builtin "list.append") [acc, x]) (fun _ s₅ => ∃ m, m < n ∧ I m s₅) (fun _ _ => False) s₄) (fun _ _ => False) s₃
            else ∃ m, m < n ∧ I m s₃) (fun _ _ => False) s₂) (fun _ _ => False) s₁') (fun _ _ => False) s₁) (fun _ _ => False) s)
    (n : Nat) (h : I n s) :
    codeAny (model prog w) A (.compLoop (.ListComp elt [⟨target, iter, ifs, 0⟩] scope pos) 0 it acc env) R s := by
  refine codeAny_loop rfl I (fun n s hI => ?_) n h
  show wpAny _ A ((compTurn (.ListComp elt [⟨target, iter, ifs, 0⟩] scope pos) 0 it acc env).onRaise (fun x => do noteFrame x env; theTreesLotGoes x)) _ _ s
  refine wpAny_noted ?_
  rw [compTurn_list]
  refine wpAny_bind (wpAny_standAt (wpAny_bind (wpAny_mono (turn n s hI) (fun r s₁ h₁ => ?_) fun _ _ h' => h'.elim)))
  cases r with
  | none => exact wpAny_pure h₁
  | some v =>
    refine wpAny_bind (wpAny_mono h₁ (fun _ s₁' h₁' => ?_) fun _ _ h' => h'.elim)
    refine wpAny_bind (wpAny_mono h₁' (fun _ s₂ h₂ => wpAny_bind (wpAny_mono h₂ (fun ok s₃ h₃ => ?_) fun _ _ h' => h'.elim)) fun _ _ h' => h'.elim)
    cases ok with
    | false => exact wpAny_pure ⟨rfl, h₃⟩
    | true =>
      exact wpAny_bind (wpAny_bind (wpAny_mono h₃ (fun x s₄ h₄ => wpAny_bind (wpAny_mono h₄ (fun _ s₅ h₅ => wpAny_pure (wpAny_pure ⟨rfl, h₅⟩)) fun _ _ h' => h'.elim)) fun _ _ h' => h'.elim))

noncomputable def freeOf (scope : Scope) : List Str := (scope.names.filter fun x => x.2 == .free).map (·.1)
noncomputable def closOf (scope : Scope) (env : Env) : List (Str × Addr) := (freeOf scope).foldl (fun cs n => (n, (env.cells.lookup n).getD 0) :: cs) []
theorem closureFor_eq {scope : Scope} {env : Env} (h : ∀ n ∈ freeOf scope, ∃ c, env.cells.lookup n = some c) : closureFor scope env = pure (closOf scope env) := by
  have go : ∀ (names : List (Str × NameKind)) (cs : List (Str × Addr)), (∀ n, (n, NameKind.free) ∈ names → ∃ c, env.cells.lookup n = some c) →
      (forIn names cs fun (x : Str × NameKind) r => (do
        let (name, kind) := x
        if kind == .free then
          let a ← cellOf env name
          pure (ForInStep.yield ((name, a) :: r))
        else pure (ForInStep.yield r) : Sem (ForInStep (List (Str × Addr))))) = pure (((names.filter fun x => x.2 == .free).map (·.1)).foldl (fun cs n => (n, (env.cells.lookup n).getD 0) :: cs) cs) := by
    intro names
    induction names with
    | nil => intro cs _; rfl
    | cons x r ih =>
      intro cs hx
      obtain ⟨n, k⟩ := x
      rw [List.forIn_cons]
      by_cases hk : k = .free
      · subst hk
        obtain ⟨c, hc⟩ := hx n (by simp)
        have e : cellOf env n = pure c := by unfold cellOf; rw [hc]
        simp only [beq_self_eq_true, if_true, e, pure_bind, List.filter_cons, List.map_cons, List.foldl_cons]
        rw [ih _ fun m hm => hx m (List.mem_cons_of_mem _ hm), hc]
        rfl
      · have hb : (k == NameKind.free) = false := by simpa using hk
        simp only [hb, Bool.false_eq_true, if_false, pure_bind, List.filter_cons]
        exact ih _ fun m hm => hx m (List.mem_cons_of_mem _ hm)
  unfold closureFor
  have g := go scope.names [] fun n hn => h n (by unfold freeOf; exact List.mem_map.mpr ⟨(n, .free), List.mem_filter.mpr ⟨hn, by simp⟩, rfl⟩)
  refine (bind_congr (fun _ => rfl)).trans ?_
  exact (congrArg (· >>= fun r => pure r) g).trans (by simp only [pure_bind]; rfl)
end L2
namespace L2
open PySem PySem.Spec PyProof.Rows

theorem clos_lookup {env : Env} : ∀ (ns : List Str) (cs : List (Str × Addr)), (∀ n ∈ ns, ∃ c, env.cells.lookup n = some c) → (∀ x c, cs.lookup x = some c → env.cells.lookup x = some c) →
    ∀ x c, (ns.foldl (fun cs n => (n, (env.cells.lookup n).getD 0) :: cs) cs).lookup x = some c → env.cells.lookup x = some c
  | [], cs, _, h => h
  | n :: r, cs, hn, h => by
    refine clos_lookup r _ (fun m hm => hn m (List.mem_cons_of_mem _ hm)) fun x c e => ?_
    rw [List.lookup_cons] at e
    cases q : (x == n) with
    | true =>
      rw [q] at e
      have q' : x = n := by simpa using q
      subst q'
      obtain ⟨c', hc⟩ := hn x List.mem_cons_self
      rw [hc] at e ⊢
      exact e
    | false => rw [q] at e; exact h x c e
theorem clos_has {env : Env} : ∀ (ns : List Str) (cs : List (Str × Addr)) (x : Str), (x ∈ ns ∨ ∃ c, cs.lookup x = some c) → ∃ c, (ns.foldl (fun cs n => (n, (env.cells.lookup n).getD 0) :: cs) cs).lookup x = some c
  | [], cs, x, h => by
    rcases h with h | h
    · simp at h
    · exact h
  | n :: r, cs, x, h => by
    refine clos_has r _ x ?_
    rcases h with h | ⟨c, h⟩
    · rcases List.mem_cons.mp h with rfl | h
      · exact .inr ⟨(env.cells.lookup x).getD 0, by rw [List.lookup_cons]; simp⟩
      · exact .inl h
    · refine .inr ?_
      rw [List.lookup_cons]
      cases q : (x == n) with
      | true => exact ⟨_, rfl⟩
      | false => exact ⟨c, h⟩

structure BlkScope (scope : Scope) : Prop where
  kind : scope.kind = .function
  cell : ∀ y ∈ scope.names, y.2 ≠ .cell
  loc : ∀ y ∈ scope.names, y.2 = .local → scope.names.lookup y.1 = some .local

theorem relabel_kind {env : Env} : ∀ {names : List (Str × NameKind)} {x : Str} {k : NameKind}, (∀ y ∈ names, y.2 ≠ .cell) →
    (names.map fun (n, k) => if (k == NameKind.free && env.scope.kind == .function && env.kindOf n == some .cell) then (n, NameKind.cell) else (n, k)).lookup x = some k → (k = .cell ∨ k = .free) → (x, NameKind.free) ∈ names
  | [], _, _, _, h, _ => by simp at h
  | (n, k0) :: r, x, k, hc, h, hk => by
    have ih := @relabel_kind env r x k fun y hy => hc y (List.mem_cons_of_mem _ hy)
    have hq : List.lookup x ((if (k0 == NameKind.free && env.scope.kind == .function && env.kindOf n == some .cell) = true then (n, NameKind.cell) else (n, k0)) :: _) = some k := h
    have hk0 := hc (n, k0) List.mem_cons_self
    by_cases q : (k0 == NameKind.free && env.scope.kind == .function && env.kindOf n == some .cell) = true
    · rw [if_pos q, List.lookup_cons] at hq
      have hf : k0 = .free := by
        rw [Bool.and_eq_true, Bool.and_eq_true] at q
        simpa using q.1.1
      subst hf
      cases hx : x == n with
      | true =>
        have e : x = n := by simpa using hx
        subst e
        exact List.mem_cons_self
      | false =>
        rw [hx] at hq
        exact List.mem_cons_of_mem _ (ih hq hk)
    · rw [if_neg q, List.lookup_cons] at hq
      cases hx : x == n with
      | true =>
        rw [hx] at hq
        have e : x = n := by simpa using hx
        subst e
        have e2 : k0 = k := Option.some.inj hq
        subst e2
        rcases hk with z | z
        · exact absurd z hk0
        · rw [z]; exact List.mem_cons_self
      | false =>
        rw [hx] at hq
        exact List.mem_cons_of_mem _ (ih hq hk)

noncomputable def Cx.blk (X : Cx) (scope : Scope) (N' : List Str) (C : Addr) (s₃ : Shared) (H₃ : Hp) (fp : List Addr) : Cx :=
  { X with N := N', s₀ := s₃, H₀ := H₃, env := compEnvC scope (closOf scope X.env) C X.env, outer := X.stack, stack := X.stack, ex := fp, fn := fun _ => false, pn := [], xe := fun _ _ => False }

noncomputable def blkStart (nown : Nat) (js : List Nat) (σ : St) : St := List.replicate nown none ++ js.map fun j => (σ[j]?).join
structure BlkNames (X : Cx) (scope : Scope) (N' : List Str) (nown : Nat) (js : List Nat) : Prop where
  len : N'.length = nown + js.length
  at' : ∀ k j, js[k]? = some j → X.N[j]? = N'[nown + k]?
  cel : ∀ n ∈ freeOf scope, X.env.kindOf n = some .cell ∨ X.env.kindOf n = some .free
  fre : ∀ k x, nown ≤ k → N'[k]? = some x → x ∈ freeOf scope ∧ (relabel scope X.env).names.lookup x ≠ some .local

theorem blk_start {X : Cx} {pins : List (Addr × Obj)} {σ : St} {H : Hp} {s₃ : Shared} {h₁ : Heap} {tk : Nat} {scope : Scope} {N' : List Str} {nown : Nat} {js : List Nat} {fp : List Addr}
    (I : Inv X pins σ H s₃) (S : BlkScope scope) (B : BlkNames X scope N' nown js) (hfp : ∀ b ∈ fp, FpOk X pins H b) (hlt : ∀ b ∈ fp, b < s₃.heap.objs.size)
    (hn : h₁.Ns s₃.heap.objs.size (fun _ => none)) (hk : ∀ b o, s₃.heap.get? b = some o → h₁.get? b = some o) :
    Inv (X.blk scope N' s₃.heap.objs.size s₃ H fp) [] (blkStart nown js σ) H { s₃ with heap := h₁, toks := tk } := by
  have hcl : ∀ n ∈ freeOf scope, ∃ c, X.env.cells.lookup n = some c := fun n hn => I.ok.has n (B.cel n hn)
  have cl1 : ∀ x c, (closOf scope X.env).lookup x = some c → X.env.cells.lookup x = some c := clos_lookup (freeOf scope) [] hcl fun x c e => by simp at e
  refine ⟨⟨I.ok.mod, S.kind, I.ok.glob, I.ok.blt, Nat.le_refl _, fun x y c h1 h2 => I.ok.inj x y c (cl1 x c h1) (cl1 y c h2), fun x hx => ?_, fun x c h1 _ => ?_, I.ok.hd, I.ok.frames, .inl rfl, fun b hb => ⟨Nat.ne_of_lt (hlt b hb), fun x c e => (hfp b hb).2.2.2.2.1 x c (cl1 x c e)⟩, I.bs, Nat.le_trans I.ok.bsz I.sz, fun b o e hb => ?_, fun b hb z => ?_, I.stack, I.stkFree⟩,
    rfl, I.bare, Un.kept hk, ⟨_, hn, fun i x v h1 h2 h3 => ?_⟩, fun x c e => ?_, I.hok.fresh (Nat.le_refl _), fun x c e => I.freeC x c (cl1 x c e), fun p hp => ?_, I.hok.kept hk, ?_⟩
  · have hx : (relabel scope X.env).names.lookup x = some .cell ∨ (relabel scope X.env).names.lookup x = some .free := hx
    have m : (x, NameKind.free) ∈ scope.names := by
      rcases hx with hx | hx
      · exact relabel_kind S.cell hx (.inl rfl)
      · exact relabel_kind S.cell hx (.inr rfl)
    exact clos_has (freeOf scope) [] x (.inl (List.mem_map.mpr ⟨(x, .free), List.mem_filter.mpr ⟨m, by simp⟩, rfl⟩))
  · exact absurd h1 (by simp [Cx.blk])
  · have f := (hfp b hb).2.2.2.1
    rcases f with f | f
    · exact I.ok.noex b o e f
    · exact absurd (Nat.lt_of_lt_of_le (Heap.lt_size (I.ok.bs b o e).1) f) (Nat.lt_irrefl _)
  · rcases List.mem_cons.mp (I.stkSub b z) with e | e
    · exact (hfp b hb).2.1 e
    · exact (hfp b hb).2.2.1 e
  · -- the names' values
    have h1 : N'[i]? = some x := h1
    have hi : nown ≤ i := by
      by_cases q : nown ≤ i
      · exact q
      · exfalso
        unfold blkStart at h2
        rw [List.getElem?_append_left (by rw [List.length_replicate]; omega), List.getElem?_replicate] at h2
        split at h2 <;> cases h2
    unfold blkStart at h2
    rw [List.getElem?_append_right (by rw [List.length_replicate]; exact hi), List.length_replicate, List.getElem?_map] at h2
    cases hj : js[i - nown]? with
    | none => rw [hj] at h2; cases h2
    | some j =>
      rw [hj] at h2
      have h2 : some ((σ[j]?).join) = some (some v) := h2
      have e1 : σ[j]? = some (some v) := by
        cases q : σ[j]? with
        | none => rw [q] at h2; cases h2
        | some z => rw [q] at h2; cases z with
          | none => cases h2
          | some z => cases h2; rfl
      have e2 : X.N[j]? = some x := by rw [B.at' _ j hj, show nown + (i - nown) = i by omega]; exact h1
      obtain ⟨hfr, hnl⟩ := B.fre i x hi h1
      have kx := B.cel x hfr
      obtain ⟨m, hm, hl⟩ := I.loc
      obtain ⟨u, r, l⟩ := hl j x v e2 e1 (by
        rcases kx with k | k
        · exact .inr (.inl k)
        · exact .inr (.inr k))
      refine ⟨u, r, .inr ⟨?_, ?_⟩⟩
      · have hv : (relabel scope X.env).names.lookup x = some .local ∨ (relabel scope X.env).names.lookup x = some .cell ∨ (relabel scope X.env).names.lookup x = some .free := h3
        exact hv.resolve_left hnl
      · rcases l with ⟨k, _⟩ | ⟨k, c, e, z⟩
        · rcases kx with k' | k' <;> rw [k] at k' <;> cases k'
        · obtain ⟨c', hc'⟩ := clos_has (env := X.env) (freeOf scope) [] x (.inl hfr)
          have e3 := cl1 x c' hc'
          rw [e] at e3
          cases e3
          obtain ⟨o, ho, hd⟩ := z
          exact ⟨c, hc', o, hk c o ho, hd⟩
  · obtain ⟨v, o, ho, hd⟩ := I.cell x c (cl1 x c e)
    exact ⟨v, o, hk c o ho, hd⟩
  · exact absurd (show p ∈ ([] : List (Addr × Obj)) from hp) (by simp)
  · unfold blkStart
    show _ = N'.length
    rw [List.length_append, List.length_replicate, List.length_map, B.len]

theorem Inv.back {X : Cx} {pins : List (Addr × Obj)} {σ σ' : St} {H H' : Hp} {s₃ s' : Shared} {scope : Scope} {N' : List Str} {C : Addr} {fp : List Addr} {pl : List (Addr × Obj)}
    (I : Inv X pins σ H s₃) (hfp : ∀ b ∈ fp, FpOk X pins H b) (J : Inv (X.blk scope N' C s₃ H fp) pl σ' H' s') : Inv X pins σ H' s' :=
  I.call' J.os J.base J.hok J.bare fun b hb => ⟨(hfp b hb).2.2.2.1, (hfp b hb).2.1, (hfp b hb).2.2.2.2.1, (hfp b hb).2.2.2.2.2⟩

noncomputable def PTs (X : Cx) (ifs : List Expr) (t : TT) : Prop :=
  ∀ (pins : List (Addr × Obj)) (s : Shared) (σ : St) (H : Hp) (Q : Bool → Hp → Prop), Inv X pins σ H s → t σ H Q →
    wpAny (model X.prog X.w) X.A (forIn ifs true fun c r => if r = true then do let ok ← isTrue c X.env (eval c X.env); pure (ForInStep.yield ok) else pure (ForInStep.yield r)) (TP X pins σ Q) X.xe s
noncomputable def tYes : TT := fun _ H Q => Q true H
theorem pts_nil {X : Cx} : PTs X [] tYes := fun _ _ _ H _ I h => wpAny_tests_nil ⟨H, I, h⟩
theorem pts_one {X : Cx} {c : Expr} {t : TT} (h : PT X c t) : PTs X [c] t := fun pins s σ H Q I q => wpAny_tests_one (h pins s σ H Q I q)

noncomputable def tBlk (J : It) (D : Addr) (g : TG) (tc : TT) (te : TE) (R : Hp → Prop) (σ : St) (H : Hp) : Prop :=
  ∃ W : Nat → Nat → St → Hp → Prop, (∃ m, W 0 m σ H) ∧ ∀ i m σ H, W i m σ H →
    (J.stop i H ∧ R H) ∨ (J.go i H ∧ ∃ N : St → Hp → Prop, (∀ σ' H', N σ' H' → ∃ m', m' < m ∧ W (i + 1) m' σ' H') ∧ ∀ x H', J.yld i H x H' → g x σ H' fun σ2 H2 => tc σ2 H2 fun b H3 =>
      if b = true then te σ2 H3 fun y H4 => ∃ ys, H4 D = some (.lst ys) ∧ ys.length < sizeLine ∧ N σ2 (upd H4 D (.lst (ys ++ [y]))) else N σ2 H3)
noncomputable def tComp (wi : TI) (nown : Nat) (js : List Nat) (g : TG) (tc : TT) (te : TE) : TE := fun σ H Q =>
  wi σ H fun J H1 => ∀ D, H1 D = none → tBlk J D g tc te (fun H2 => Q (.ref D) H2) (blkStart nown js σ) (upd H1 D (.lst []))

structure Blk (X : Cx) (scope : Scope) (N' : List Str) (tg elt : Expr) (ifs : List Expr) (g : TG) (tc : TT) (te : TE) : Prop where
  tg : ∀ C s₃ H₃ fp, PG (X.blk scope N' C s₃ H₃ fp) tg g
  tc : ∀ C s₃ H₃ fp, PTs (X.blk scope N' C s₃ H₃ fp) ifs tc
  te : ∀ C s₃ H₃ fp, PE (X.blk scope N' C s₃ H₃ fp) elt te

theorem comp_block {X : Cx} {tg elt iter : Expr} {ifs : List Expr} {scope : Scope} {pos : Pos} {N' : List Str} {nown : Nat} {js : List Nat} {g : TG} {tc : TT} {te : TE} {E : Value → Shared → Prop}
    (hc : X.calm = true) (S : BlkScope scope) (B : BlkNames X scope N' nown js) (K : Blk X scope N' tg elt ifs g tc te)
    {pins : List (Addr × Obj)} {σ : St} {H2 : Hp} {s₂ : Shared} {it : Addr} {fp : List Addr} {tn : Nat → Heap → Prop} {J : It} {Q : VK} {RR : Value → Addr → Result → Shared → Prop}
    (I2 : Inv X pins σ H2 s₂) (T : Turn X.prog X.w X.K tg J fp it tn) (st2 : tn 0 s₂.heap) (f2 : ∀ b ∈ fp, FpOk X pins H2 b)
    (h : ∀ D, H2 D = none → tBlk J D g tc te (fun H' => Q (.ref D) H') (blkStart nown js σ) (upd H2 D (.lst [])))
    (hRR : ∀ (D C : Addr) (H' : Hp) (s' : Shared), Inv X pins σ H' s' → (∃ m, s'.heap.Ns C m) → (∀ h', Heap.SameBut C s'.heap h' → Inv X pins σ H' { s' with heap := h' }) → FpOk X pins H' C → Q (.ref D) H' → RR (.ref D) C (.ok .next) s') :
    wpAny (model X.prog X.w) X.A (newList []) (fun acc s₃ => wpAny (model X.prog X.w) X.A (newFunctionEnv scope X.env.globals (closOf scope X.env) [] X.env.qual none .none (some X.env)) (fun cenv s₄ =>
      codeAny (model X.prog X.w) X.A (.compStart (.ListComp elt [⟨tg, iter, ifs, 0⟩] scope pos) 0 (.ref it) acc { cenv with scope := relabel scope X.env }) (RR acc cenv.locals) s₄) E s₃) E s₂ := by
  have hD : H2 s₂.heap.objs.size = none := I2.hok.fresh (Nat.le_refl _)
  have k3 : ∀ b o, s₂.heap.get? b = some o → (s₂.heap.push { cls := .type "list", dict := none, data := .seq ([] : List Value).toArray }).get? b = some o := fun b o e => Heap.get?_push_of_some _ e
  have I3 : Inv X pins σ (upd H2 s₂.heap.objs.size (.lst [])) { s₂ with heap := s₂.heap.push { cls := .type "list", dict := none, data := .seq ([] : List Value).toArray } } :=
    I2.laid (t' := s₂.toks) k3 (Nat.le_refl _) ⟨Nat.zero_le _, [], 0, .nil, Heap.get?_push_size _ rfl⟩
  have lt2 : ∀ b ∈ fp, b < s₂.heap.objs.size := fun b hb => let ⟨o, e, _⟩ := T.obj 0 _ st2 b hb; Heap.lt_size e
  have f3 : ∀ b ∈ fp, FpOk X pins (upd H2 s₂.heap.objs.size (.lst [])) b := fun b hb => ⟨by rw [upd_ne (Nat.ne_of_lt (lt2 b hb))]; exact (f2 b hb).1, (f2 b hb).2⟩
  have st3 := T.keep 0 _ _ st2 fun b _ o e => k3 b o e
  obtain ⟨W, ⟨m0, w0⟩, turn⟩ := h _ hD
  refine wpAny_newObj_type (wpAny_newFunctionEnv S.cell (by intro y hy; simp at hy) (fun h₁ hns₁ hsb₁ => ?_) S.kind)
  dsimp only at hns₁ hsb₁ ⊢
  generalize hs3 : ({ s₂ with heap := s₂.heap.push { cls := .type "list", dict := none, data := .seq ([] : List Value).toArray } } : Shared) = s₃ at I3
  have h3 : s₂.heap.push { cls := .type "list", dict := none, data := .seq ([] : List Value).toArray } = s₃.heap := by rw [← hs3]
  rw [h3] at hns₁ hsb₁ st3 ⊢
  have k4 : ∀ b o, s₃.heap.get? b = some o → h₁.get? b = some o := fun b o e => hsb₁.extBut b o (Nat.ne_of_lt (Heap.lt_size e)) (Heap.get?_push_of_some _ e)
  have hns : h₁.Ns s₃.heap.objs.size (fun _ => none) := by
    obtain ⟨o, es, ep, e, d, k, r⟩ := hns₁
    exact ⟨o, es, ep, e, d, k, fun n => by rw [r n]; rfl⟩
  have lt3 : ∀ b ∈ fp, b < s₃.heap.objs.size := fun b hb => let ⟨o, e, _⟩ := T.obj 0 _ st3 b hb; Heap.lt_size e
  have J0 : ∀ tk, Inv (X.blk scope N' s₃.heap.objs.size s₃ (upd H2 s₂.heap.objs.size (.lst [])) fp) [] (blkStart nown js σ) (upd H2 s₂.heap.objs.size (.lst [])) { s₃ with heap := h₁, toks := tk } := fun tk => blk_start I3 S B f3 lt3 hns k4
  have loop : ∀ s4 : Shared, s4 = { s₃ with heap := h₁, toks := s₂.toks + ([] : List (Str × Value)).length } →
      codeAny (model X.prog X.w) X.A (.compLoop (.ListComp elt [⟨tg, iter, ifs, 0⟩] scope pos) 0 (.ref it) (.ref s₂.heap.objs.size) (compEnvC scope (closOf scope X.env) s₃.heap.objs.size X.env)) (RR (.ref s₂.heap.objs.size) s₃.heap.objs.size) s4 := by
    rintro s4 rfl
    have Y : ∀ b ∈ fp, FpOk (X.blk scope N' s₃.heap.objs.size s₃ (upd H2 s₂.heap.objs.size (.lst [])) fp) [] (upd H2 s₂.heap.objs.size (.lst [])) b := fun b hb => by
      have F := f3 b hb
      refine ⟨F.1, Nat.ne_of_lt (lt3 b hb), fun z => ?_, .inl hb, (J0 0).ok.exf b hb |>.2, fun p hp => absurd (show p ∈ ([] : List (Addr × Obj)) from hp) (by simp)⟩
      exact (J0 0).ok.exfs b hb z
    have stat : ∀ {H' : Hp}, (∀ b ∈ fp, H' b = none) → ∀ b ∈ fp, FpOk (X.blk scope N' s₃.heap.objs.size s₃ (upd H2 s₂.heap.objs.size (.lst [])) fp) [] H' b := fun hn b hb => ⟨hn b hb, (Y b hb).2⟩
    refine comp_loop (fun n s' => ∃ i σ' H', Inv (X.blk scope N' s₃.heap.objs.size s₃ (upd H2 s₂.heap.objs.size (.lst [])) fp) [] σ' H' s' ∧ tn i s'.heap ∧ (∀ b ∈ fp, H' b = none) ∧ W i n σ' H') ?_ m0
      ⟨0, _, _, J0 _, T.keep 0 _ _ st3 fun b _ o e => k4 b o e, fun b hb => (f3 b hb).1, w0⟩
    rintro n s5 ⟨i, σ5, H5, I5, st5, fr5, w5⟩
    rcases turn i n σ5 H5 w5 with ⟨stop, qn⟩ | ⟨go, N, hN, step⟩
    · refine thn (T.done (X.blk scope N' s₃.heap.objs.size s₃ (upd H2 s₂.heap.objs.size (.lst [])) fp) rfl rfl rfl hc i [] s5 σ5 H5 _ I5 (stat fr5) st5 stop) fun r s6 ⟨hr, I6⟩ => ?_
      subst hr
      have I6' : Inv X pins σ H5 s6 := I3.back f3 I6
      have hC : FpOk X pins H5 s₃.heap.objs.size := I3.fpOk (Nat.le_refl _) I6.free
      refine hRR _ _ H5 s6 I6' (let ⟨m, hm, _⟩ := I6.loc; ⟨m, hm⟩) (fun h' sb => ?_) hC qn
      exact I6'.turned (t' := s6.toks) (fun b o hb e => (sb.2 b hb).trans e) hC.1 hC.2.1 hC.2.2.2.1 hC.2.2.2.2.1 hC.2.2.2.2.2
    · refine thn (T.item (X.blk scope N' s₃.heap.objs.size s₃ (upd H2 s₂.heap.objs.size (.lst [])) fp) rfl rfl rfl hc i [] s5 σ5 H5 _ I5 (stat fr5) st5 go) fun r s6 ⟨u, hr, h6⟩ => ?_
      subst hr
      refine thn h6 fun _ s7 ⟨x, H7, I7, r7, y7, st7, fr7⟩ => ?_
      have I7' := I7.pinned (stat fr7) (T.obj _ _ st7)
      have again : ∀ {σ9 : St} {H9 : Hp} {s9 : Shared}, Inv (X.blk scope N' s₃.heap.objs.size s₃ (upd H2 s₂.heap.objs.size (.lst [])) fp) ([] ++ pinsAt fp s7.heap) σ9 H9 s9 → N σ9 H9 →
          ∃ m, m < n ∧ ∃ i σ' H', Inv (X.blk scope N' s₃.heap.objs.size s₃ (upd H2 s₂.heap.objs.size (.lst [])) fp) [] σ' H' s9 ∧ tn i s9.heap ∧ (∀ b ∈ fp, H' b = none) ∧ W i m σ' H' := fun {σ9 H9 s9} I9 n9 => by
        obtain ⟨m', hm, w9⟩ := hN σ9 H9 n9
        refine ⟨m', hm, i + 1, σ9, H9, I9.unpinned, T.keep _ _ _ st7 fun b hb o e => (I9.pin (b, o) (List.mem_append_right _ (List.mem_append_right _ (mem_pinsAt hb e)))).1, fun b hb => ?_, w9⟩
        obtain ⟨o, e, d⟩ := T.obj _ _ st7 b hb
        exact (I9.pin (b, o) (List.mem_append_right _ (List.mem_append_right _ (mem_pinsAt hb e)))).2.1
      refine thn (K.tg _ _ _ _ _ s7 σ5 H7 x u _ I7' r7 (step x H7 y7)) fun _ s8 ⟨σ8, H8, I8, q8⟩ => ?_
      refine thn (K.tc _ _ _ _ _ s8 σ8 H8 _ I8 q8) fun ok s9 ⟨H9, I9, q9⟩ => ?_
      cases ok with
      | false => exact again I9 q9
      | true =>
        rw [if_pos rfl] at q9 ⊢
        refine thn (K.te _ _ _ _ _ s9 σ8 H9 _ I9 q9) fun y s10 ⟨yv, H10, I10, r10, ys, e10, l10, q10⟩ => ?_
        refine thn (mt_append _ s10 σ8 H10 (.ref s₂.heap.objs.size) [yv] (.ref s₂.heap.objs.size) [y] (fun v H' => N σ8 H') I10 rfl (.cons r10 .nil) ⟨_, ys, yv, rfl, rfl, e10, l10, q10⟩) fun _ s11 ⟨_, H11, I11, _, q11⟩ => again I11 q11
  have fin := loop _ rfl
  have e4 : ({ s₂ with heap := h₁, toks := s₂.toks + ([] : List (Str × Value)).length } : Shared) = { s₃ with heap := h₁, toks := s₂.toks + ([] : List (Str × Value)).length } := by rw [← hs3]
  rw [← e4] at fin
  refine codeAny_compStart_list fin (T.self _ 0 _ _ _ ?_ fin)
  exact T.keep 0 _ _ st3 fun b _ o e => k4 b o e

section
variable {X : Cx} {tg elt iter : Expr} {ifs : List Expr} {scope : Scope} {pos : Pos} {N' : List Str} {nown : Nat} {js : List Nat} {wi : TI} {g : TG} {tc : TT} {te : TE}
theorem pe_comp (hc : X.calm = true) (S : BlkScope scope) (B : BlkNames X scope N' nown js) (K : Blk X scope N' tg elt ifs g tc te) (hi : PI X tg iter wi)
    (hs : ∀ x, foldedSetIterable iter X.env x = pure x := by intro _; rfl) : PE X (.ListComp elt [⟨tg, iter, ifs, 0⟩] scope pos) (tComp wi nown js g tc te) := by
  intro pins s σ H Q I h
  have hcl : closureFor scope X.env = pure (closOf scope X.env) := closureFor_eq fun n hn => I.ok.has n (B.cel n hn)
  rw [eval_ListComp]
  refine wpAny_comprehension_free (use := none) rfl hs hcl S.kind S.loc (thn (hi pins s σ H _ I h) fun xv s₁ h₁ => thn h₁ fun itv s₂ h₂ => ?_)
  obtain ⟨it, fp, tn, J, H2, e, I2, T, st2, f2, q⟩ := h₂
  subst e
  refine comp_block (RR := fun acc C => compPost (model X.prog X.w) X.A X.xe none (EP X pins σ Q) acc C) hc S B K I2 T st2 f2 q fun D C H' s' I' hm k hC qq => ?_
  obtain ⟨m, hm⟩ := hm
  exact ⟨m, hm, fun h' sb => ⟨.ref D, H', k h' sb, rfl, qq⟩⟩
theorem ps_setcomp {i : Nat} {x : Str} {px spos : Pos} (hsw : swapsWith (.ListComp elt [⟨tg, iter, ifs, 0⟩] scope pos) (some (.Name x px)) spos.line X.env = pure true) (hN : X.N.Nodup) (hi' : X.N[i]? = some x) (hx : X.env.scope.names.lookup x = some .local)
    (hc : X.calm = true) (S : BlkScope scope) (B : BlkNames X scope N' nown js) (K : Blk X scope N' tg elt ifs g tc te) (hi : PI X tg iter wi)
    (hs : ∀ x, foldedSetIterable iter X.env x = pure x := by intro _; rfl) : PS X (.Assign [.Name x px] (.ListComp elt [⟨tg, iter, ifs, 0⟩] scope pos) spos) (tAsg (tComp wi nown js g tc te) (gName i)) := by
  intro pins s σ H D I h
  have hcl : closureFor scope X.env = pure (closOf scope X.env) := closureFor_eq fun n hn => I.ok.has n (B.cel n hn)
  rw [exec_Assign_Name_used _ _ _ _ hsw]
  refine wpAny_bind (wpAny_standAt (wpAny_bind ?_))
  show wpAny _ _ (do let _ ← comprehension (.ListComp elt [⟨tg, iter, ifs, 0⟩] scope pos) scope X.env _ (newList []) false (eval iter X.env) (some (assign (.Name x px) X.env))) _ _ s
  refine wpAny_bind (wpAny_mono (wpAny_comprehension_free (use := some (assign (.Name x px) X.env)) (Q := fun _ s' => SP X pins D .next s') rfl hs hcl S.kind S.loc (thn (hi pins s σ H _ I h) fun xv s₁ h₁ => thn h₁ fun itv s₂ h₂ => ?_))
    (fun _ s' hq => wpAny_pure (wpAny_pure hq)) fun _ _ e => e)
  obtain ⟨it, fp, tn, J, H2, e, I2, T, st2, f2, q⟩ := h₂
  subst e
  refine comp_block (RR := fun acc C => compPost (model X.prog X.w) X.A X.xe (some (assign (.Name x px) X.env)) (fun _ s' => SP X pins D .next s') acc C) (Q := fun v H' => D.nx (σ.set i (some v)) H') hc S B K I2 T st2 f2 q fun Da C H' s' I' hm k hC qq => ?_
  show wpAny _ _ (assign (.Name x px) X.env (.ref Da)) _ _ _
  refine wpAny_assign_Name (store_ok2 I' hN hi' (.inl hx) (v := .ref Da) rfl (fun s'' I'' ⟨a, sb, ha⟩ => ?_) (.inr hx))
  have hCa : C ≠ a := by
    rcases ha with rfl | ha
    · exact hC.2.1
    · exact fun z => hC.2.2.2.2.1 x a ha z.symm
  obtain ⟨m, hm⟩ := hm
  refine ⟨m, hm.sameBut sb hCa, fun h' sb' => ⟨_, H', ?_, qq⟩⟩
  exact I''.turned (t' := s''.toks) (fun b o hb e => (sb'.2 b hb).trans e) hC.1 hC.2.1 hC.2.2.2.1 hC.2.2.2.2.1 hC.2.2.2.2.2
end

theorem blk_list {K : PySem.W.Frag} {a D : Addr} {xs : List V} {g : TG} {tc : TT} {te : TE} {R : Hp → Prop} {σ : St} {H : Hp} (Pv : Nat → St → Hp → Prop) (h0 : Pv 0 σ H)
    (hl : ∀ i σ H, i ≤ xs.length → Pv i σ H → SqL K H a xs)
    (hs : ∀ i x σ H, xs[i]? = some x → Pv i σ H → g x σ H fun σ2 H2 => tc σ2 H2 fun b H3 => if b = true then te σ2 H3 fun y H4 => ∃ ys, H4 D = some (.lst ys) ∧ ys.length < sizeLine ∧ Pv (i + 1) σ2 (upd H4 D (.lst (ys ++ [y]))) else Pv (i + 1) σ2 H3)
    (hd : ∀ σ H, Pv xs.length σ H → R H) : tBlk (Itl K a) D g tc te R σ H := by
  refine ⟨fun i m σ H => m = xs.length - i ∧ i ≤ xs.length ∧ Pv i σ H, ⟨xs.length, by simp, Nat.zero_le _, h0⟩, ?_⟩
  rintro i m σ H ⟨rfl, hi, p⟩
  have q := hl i σ H hi p
  by_cases hlt : i < xs.length
  · refine .inr ⟨⟨xs, xs[i], q, by simp [hlt]⟩, Pv (i + 1), fun σ' H' p' => ⟨xs.length - (i + 1), by omega, rfl, hlt, p'⟩, fun x H' y => ?_⟩
    obtain ⟨e, y⟩ := y
    subst e
    exact hs i x σ _ (y xs q) p
  · have e : i = xs.length := by omega
    subst e
    exact .inl ⟨⟨xs, q, Nat.le_refl _⟩, hd σ H p⟩
theorem blk_range {lo : Int} {n : Nat} {D : Addr} {g : TG} {tc : TT} {te : TE} {R : Hp → Prop} {σ : St} {H : Hp} (Pv : Nat → St → Hp → Prop) (h0 : Pv 0 σ H)
    (hs : ∀ i σ H, i < n → Pv i σ H → g (.int (lo + i)) σ H fun σ2 H2 => tc σ2 H2 fun b H3 => if b = true then te σ2 H3 fun y H4 => ∃ ys, H4 D = some (.lst ys) ∧ ys.length < sizeLine ∧ Pv (i + 1) σ2 (upd H4 D (.lst (ys ++ [y]))) else Pv (i + 1) σ2 H3)
    (hd : ∀ σ H, Pv n σ H → R H) : tBlk (Itr lo n) D g tc te R σ H := by
  refine ⟨fun i m σ H => m = n - i ∧ i ≤ n ∧ Pv i σ H, ⟨n, by simp, Nat.zero_le _, h0⟩, ?_⟩
  rintro i m σ H ⟨rfl, hi, p⟩
  by_cases hlt : i < n
  · refine .inr ⟨hlt, Pv (i + 1), fun σ' H' p' => ⟨n - (i + 1), by omega, rfl, hlt, p'⟩, fun x H' y => ?_⟩
    obtain ⟨e, y⟩ := y
    subst e y
    exact hs i σ _ hlt p
  · have e : i = n := by omega
    subst e
    exact .inl ⟨Nat.le_refl _, hd σ H p⟩
theorem blk_str {x : Str} {D : Addr} {g : TG} {tc : TT} {te : TE} {R : Hp → Prop} {σ : St} {H : Hp} (Pv : Nat → St → Hp → Prop) (h0 : Pv 0 σ H)
    (hs : ∀ i c σ H, x.cps[i]? = some c → Pv i σ H → g (signV c) σ H fun σ2 H2 => tc σ2 H2 fun b H3 => if b = true then te σ2 H3 fun y H4 => ∃ ys, H4 D = some (.lst ys) ∧ ys.length < sizeLine ∧ Pv (i + 1) σ2 (upd H4 D (.lst (ys ++ [y]))) else Pv (i + 1) σ2 H3)
    (hd : ∀ σ H, Pv x.cps.size σ H → R H) : tBlk (Its x) D g tc te R σ H := by
  refine ⟨fun i m σ H => m = x.cps.size - i ∧ i ≤ x.cps.size ∧ Pv i σ H, ⟨x.cps.size, by simp, Nat.zero_le _, h0⟩, ?_⟩
  rintro i m σ H ⟨rfl, hi, p⟩
  by_cases hlt : i < x.cps.size
  · refine .inr ⟨hlt, Pv (i + 1), fun σ' H' p' => ⟨x.cps.size - (i + 1), by omega, rfl, hlt, p'⟩, fun v H' y => ?_⟩
    obtain ⟨e, c, hc, rfl⟩ := y
    subst e
    exact hs i c σ _ hc p
  · have e : i = x.cps.size := by omega
    subst e
    exact .inl ⟨Nat.le_refl _, hd σ H p⟩
end L2
namespace L2
open PySem PySem.Spec PyProof.Rows

section
variable {X : Cx} {e : Expr} {te : TE} {lo hi : Option Expr} {tl th : TO} {pos p2 : Pos}
end

section
variable {X : Cx}
theorem vals_bl : ∀ {bs : List Bool} {us : List Value}, Vals (bs.map V.bl) us → ∀ (i : Nat) (v : Value), us[i]? = some v → ∃ b, bs[i]? = some b ∧ v = .bool b
  | [], _, .nil, _, _, e => by simp at e
  | b :: bs, _, .cons r rr, 0, v, e => by
    cases r
    simp at e
    exact ⟨b, rfl, e.symm⟩
  | b :: bs, _, .cons r rr, i + 1, v, e => by
    obtain ⟨c, h1, h2⟩ := vals_bl (bs := bs) rr i v (by simpa using e)
    exact ⟨c, by simpa using h1, h2⟩
inductive AllB (K : PySem.W.Frag) (xs : List V) (H : Hp) (Q : VK) : Prop
  | mk (a : Addr) (bs : List Bool) (h0_ : xs = [.ref a]) (h1_ : SqL K H a (bs.map V.bl)) (h2_ : Q (.bl (bs.all id)) H)
theorem call_allB (hc : X.calm = true) : CallR X (.builtin "all") (AllB X.K) := by
  intro pins s σ H xs us Q I r h
  obtain ⟨a, bs, rfl, hs, q⟩ := h
  obtain ⟨u, rfl, rx⟩ := vals1 r
  cases rx
  obtain ⟨its, rv, pl, hz⟩ := I.list hs
  have hl := pl.isList
  have hlt : a < s.heap.objs.size := by obtain ⟨_, e, _⟩ := hl; exact Heap.lt_size e
  have hlen : its.length = bs.length := by rw [← rv.length, List.length_map]
  refine call_all_walk (wpAny_pyIter_list hl ⟨s.heap.objs.size, [s.heap.objs.size, a], [s.heap.objs.size], its.toArray.size, _, _, fun i => (bs[i]?).getD true, rfl,
    Walks.list (A := X.A.in1) (I.ok.hd hc) _ a (Nat.ne_of_lt hlt) its.toArray, ⟨⟨_, Heap.get?_push_size _ rfl, rfl, rfl⟩, hl.push _⟩, fun i v s' Q' E' hP hQ => ?_, fun h' tk hk => ?_⟩)
  · obtain ⟨b, eb, rfl⟩ := vals_bl rv i v (by simpa using hP)
    simp only [eb, Option.getD_some] at hQ
    exact wpAny_truthy_bool hQ
  · have ea : ((List.range its.toArray.size).all fun i => (bs[i]?).getD true) = bs.all id := by
      rw [List.size_toArray, hlen]
      exact LSm.range_all bs
    rw [ea]
    exact ⟨.bl (bs.all id), H, I.kept (LSm.kept_iter hk), rfl, q⟩
inductive IsiAt (K : PySem.W.Frag) (xs : List V) (H : Hp) (Q : VK) : Prop
  | mk (x : _) (c : _) (cv : _) (t : _) (b : _) (h0_ : xs = [x, c]) (h1_ : (∀ u, RelV c u → u = cv)) (h2_ : TyOf K H x t) (h3_ : PySem.W.kitOne K t cv = some b) (h4_ : Q (.bl b) H)
theorem call_isi : CallR X (.builtin "isinstance") (IsiAt X.K) := by
  intro pins s σ H xs us Q I r h
  obtain ⟨x, c, cv, t, b, rfl, hc, ty, e, q⟩ := h
  obtain ⟨u, w', rfl, rx, rc⟩ := vals2 r
  have ec := hc w' rc
  subst ec
  exact isinst_ok I rx ty e fun tk => ⟨.bl b, H, I.tok tk, rfl, q⟩
theorem rel_ty {T : String} : ∀ u, RelV (.ty T) u → u = .type T := fun _ r => r
end

noncomputable def tCut (P : St → Hp → Prop) (t u : TS) : TS := fun D σ H => t { D with nx := P } σ H ∧ ∀ σ' H', P σ' H' → u D σ' H'
theorem pss_cut {X : Cx} {st : Stmt} {rest : List Stmt} {t u : TS} (P : St → Hp → Prop) (h1 : PS X st t) (h2 : PSs X rest u) : PSs X (st :: rest) (tCut P t u) := by
  intro pins s σ H D I h
  obtain ⟨ht, hu⟩ := h
  refine wpAny_execs_cons (thn (h1 pins s σ H { D with nx := P } I ht) fun f s1 q => ?_)
  cases f with
  | next =>
    obtain ⟨σ', H', I', q⟩ := q
    exact h2 pins s1 σ' H' D I' (hu σ' H' q)
  | ret v => exact q
  | brk => exact q
  | cont => exact q
end L2
namespace L2
open PySem PySem.Spec PyProof.Rows
namespace Bo
theorem isinstance : bootBuiltins "isinstance" = some (.builtin "isinstance") := by decide +kernel
theorem str : bootBuiltins "str" = some (.type "str") := by decide +kernel
theorem bool : bootBuiltins "bool" = some (.type "bool") := by decide +kernel
theorem int : bootBuiltins "int" = some (.type "int") := by decide +kernel
theorem list : bootBuiltins "list" = some (.type "list") := by decide +kernel
theorem all : bootBuiltins "all" = some (.builtin "all") := by decide +kernel
theorem len : bootBuiltins "len" = some (.builtin "len") := by decide +kernel
theorem sorted : bootBuiltins "sorted" = some (.builtin "sorted") := by decide +kernel
theorem enumerate : bootBuiltins "enumerate" = some (.type "enumerate") := by decide +kernel
end Bo
noncomputable def relabelN (scope sc : Scope) : List (Str × NameKind) := scope.names.map fun (n, k) => if (k == .free && sc.kind == .function && sc.names.lookup n == some .cell) then (n, .cell) else (n, k)
noncomputable def blkOk (sc scope : Scope) (N N' : List Str) (nown : Nat) (js : List Nat) : Bool :=
  decide (N'.length = nown + js.length) && (List.range js.length).all (fun k => decide (N[js.getD k 0]? = N'[nown + k]?))
    && (freeOf scope).all (fun n => decide (sc.names.lookup n = some .cell) || decide (sc.names.lookup n = some .free))
    && (List.range js.length).all (fun k => match N'[nown + k]? with | some x => decide (x ∈ freeOf scope) && decide ((relabelN scope sc).lookup x ≠ some .local) | none => false)
theorem blkNames {X : Cx} {scope : Scope} {N' : List Str} {nown : Nat} {js : List Nat} (sc : Scope) (N : List Str) (hsc : X.env.scope = sc) (hN : X.N = N) (h : blkOk sc scope N N' nown js = true) : BlkNames X scope N' nown js := by
  subst hsc hN
  unfold blkOk at h
  rw [Bool.and_eq_true, Bool.and_eq_true, Bool.and_eq_true] at h
  obtain ⟨⟨⟨h1, h2⟩, h3⟩, h4⟩ := h
  have h1 := of_decide_eq_true h1
  refine ⟨h1, fun k j e => ?_, fun n hn => ?_, fun k x hk e => ?_⟩
  · have hk : k < js.length := (List.getElem?_eq_some_iff.mp e).1
    have q := of_decide_eq_true (List.all_eq_true.mp h2 k (List.mem_range.mpr hk))
    have ej : js.getD k 0 = j := by rw [List.getD_eq_getElem?_getD, e]; rfl
    rw [ej] at q
    exact q
  · have q := List.all_eq_true.mp h3 n hn
    rw [Bool.or_eq_true] at q
    exact q.imp (fun z => of_decide_eq_true z) fun z => of_decide_eq_true z
  · have hl : k < N'.length := (List.getElem?_eq_some_iff.mp e).1
    have q := List.all_eq_true.mp h4 (k - nown) (List.mem_range.mpr (by omega))
    have ek : nown + (k - nown) = k := by omega
    rw [ek, e] at q
    have q' : (decide (x ∈ freeOf scope) && decide ((relabelN scope X.env.scope).lookup x ≠ some .local)) = true := q
    rw [Bool.and_eq_true] at q'
    exact ⟨of_decide_eq_true q'.1, of_decide_eq_true q'.2⟩

noncomputable def isStar : Expr → Bool
  | .Starred .. => true
  | _ => false
theorem starEach_plain {e : Expr} {es : List Expr} {env : Env} (h : isStar e = false) : starEach (e :: es) env = (false, eval e env) :: starEach es env := by
  cases e <;> first | rfl | cases h
theorem pac {X : Cx} {e : Expr} {es : List Expr} {te : TE} {t : TA} (ha : PE X e te) (hr : PA X es t) (hs : isStar e = false := by rfl) : PA X (e :: es) (tCons te t) := pa_cons ha hr (starEach_plain hs)

end L2
namespace L2
open PySem
section
variable {X : Cx} {D : Ends} {s1 s2 s3 s4 s5 : Stmt} {rest : List Stmt} {t1 t2 t3 t4 t5 : TS} {J : St → Hp → Prop}
end
end L2
namespace L2
open PySem PySem.Spec PyProof.Rows

inductive CXE (P : Program) (w : World) (outer : List Env) (H : Hp) (s : Shared) (E : XK) (ev : Value) (s' : Shared) : Prop
  | mk (e t : Addr) (cls : Value) (vs : List Value) (H' : Hp) (B : Heap) (h1 : ev = .ref e) (h2 : s'.os = s.os) (h3 : AllBare s'.gens) (h4 : Un (frs outer) [] H H' s.heap s'.heap) (h5 : HOk P w H' s'.heap)
    (h6 : Heap.FlyingW B outer e cls (.ref t) s'.heap) (h7 : s'.heap.TupAt t vs) (h8 : B.get? t = none)
    (h9 : ∀ b o, s.heap.get? b = some o → H b = none → b ∉ frs outer → B.get? b = some o) (h10 : ∀ b u, H' b = some u → ∃ o, B.get? b = some o)
    (h11 : ∀ b o, s.heap.get? b = some o → b ∉ frs outer → ∃ o', B.get? b = some o') (h12 : E cls none H')
theorem HOk.inB {P : Program} {w : World} {H : Hp} {h h' B : Heap} (x : HOk P w H h) (k : B.StaysIn h) (k' : B.StaysIn h') (t : ∀ b u, H b = some u → ∃ o, B.get? b = some o) : HOk P w H h' := fun a o e => by
  refine (x a o e).stay (fun b u hb q => ?_) (fun _ q => q) fun _ _ q => q
  have hs : ∃ v, H b = some v := by
    rcases hb with rfl | hb
    · exact ⟨o, e⟩
    · exact ⟨_, hb⟩
  obtain ⟨v, hv⟩ := hs
  obtain ⟨o', ho⟩ := t b v hv
  have := k b o' ho
  rw [q] at this
  cases this
  exact k' b u ho
structure Cx.Body (X : Cx) (E : XK) : Prop where
  xe : X.xe = fun ev s' => wpAny (model X.prog X.w) X.A (leaving X.env ev) (fun _ s'' => CXE X.prog X.w X.outer X.H₀ X.s₀ E ev s'') (fun ev' s'' => CXE X.prog X.w X.outer X.H₀ X.s₀ E ev' s'') s'
  stk : X.stack = X.env :: X.outer
  frm : X.env.frame = some X.env.locals
  ex : X.ex = []
theorem body_of {P : Program} {w : World} {K : PySem.W.Frag} {mg : Str → Option Value} {base : Heap} {N : List Str} {qual : Str} {scope : Scope} {f : Addr} {cd : Value} {A : Around} {outer : List Env} {s : Shared} {H : Hp} {E : XK} :
    (cxOf (CXE P w) P w K mg base N qual scope f cd A outer s H E).Body E := ⟨rfl, rfl, rfl, rfl⟩
section
variable {X : Cx} {E : XK}
theorem Cx.Body.stkFrs (D : X.Body E) : frs X.stack = X.env.locals :: X.fs := by
  rw [D.stk]
  show List.filterMap _ (X.env :: X.outer) = _
  rw [List.filterMap_cons, D.frm]
  rfl
theorem Cx.Body.passes (D : X.Body E) {E' : XK} (hE : ∀ c d H', E' c d H' → E c d H') : Passes (CXE X.prog X.w) X E' := by
  intro pins σ H s ev s' I h
  obtain ⟨e, t, cls, vs, H', B, rfl, h2, h3, h4, h5, h6, h7, h8, h9, h10, h12, h11⟩ := h
  have J : Inv X pins σ H' s' := I.call' (ch := []) h2 h4 h5 h3 fun _ z => nomatch z
  rw [D.xe]
  show wpAny (model X.prog X.w) X.A (leaving X.env (.ref e)) _ _ s'
  have hfr : X.A.frames = some (X.env :: X.outer) := by rw [I.ok.frames, D.stk]
  rw [D.stk] at h6
  refine wpAny_leaves_onW hfr D.frm h6 fun h' f1 f2 => ?_
  have neL : ∀ b o, X.s₀.heap.get? b = some o → b ≠ X.env.locals := fun b o q => Nat.ne_of_lt (Nat.lt_of_lt_of_le (Heap.lt_size q) I.ok.above)
  have inB : ∀ b o, X.s₀.heap.get? b = some o → X.H₀ b = none → b ∉ X.fs → B.get? b = some o := fun b o q n hb => by
    have nex : b ∉ X.ex := by rw [D.ex]; simp
    refine h9 b o (I.base.keep b o q n hb nex) (I.base.free b o q n nex) ?_
    rw [D.stkFrs]
    intro z
    rcases List.mem_cons.mp z with z | z
    · exact neL b o q z
    · exact hb z
  have allB : ∀ b o, X.s₀.heap.get? b = some o → b ∉ X.fs → ∃ o', B.get? b = some o' := fun b o q hb => by
    obtain ⟨o1, q1⟩ := I.base.there b o q (by rw [D.ex]; simp)
    refine h12 b o1 q1 ?_
    rw [D.stkFrs]
    intro z
    rcases List.mem_cons.mp z with z | z
    · exact neL b o q z
    · exact hb z
  refine ⟨e, t, cls, vs, H', B, rfl, J.os, h3, ⟨fun b o q n hb _ => f1.1 b o (inB b o q n hb), fun b o q n hb _ => ?_, fun b o q n _ => J.base.free b o q n (by rw [D.ex]; simp), fun b o q _ => ?_, J.base.tups, J.base.frzs, J.base.tbls⟩, ?_, f1, h7.of_slots f2, h8, inB, h10, allB, hE _ _ _ h11⟩
  · obtain ⟨sl, e1⟩ := J.base.slot b o q n hb (by rw [D.ex]; simp)
    obtain ⟨L, oL, hL, hn⟩ := (show ∃ L o, L = b ∧ s'.heap.get? L = some o ∧ ∀ vs, o.data ≠ .fields vs from by
      obtain ⟨_, oo, hoo, hnf⟩ := (J.funs).mem hb
      exact ⟨b, oo, rfl, hoo, hnf⟩)
    obtain ⟨rfl, hn, hnf⟩ : L = b ∧ s'.heap.get? L = some oL ∧ ∀ vs, oL.data ≠ .fields vs := ⟨hL, hn.1, hn.2⟩
    obtain ⟨sl', e2⟩ := f2 L oL hn hnf
    rw [e1] at hn
    cases hn
    exact ⟨sl', e2⟩
  · by_cases hb : b ∈ X.fs
    · obtain ⟨_, o', ho', _⟩ := f1.2.2.1.mem hb
      exact ⟨o', ho'⟩
    · obtain ⟨o', ho'⟩ := allB b o q hb
      exact ⟨o', f1.1 b o' ho'⟩
  · exact h5.inB h6.1 f1.1 h10
end
end L2
namespace L2
open PySem PySem.Spec PyProof.Rows

noncomputable abbrev veMro : List Value := [.type "ValueError", .type "Exception", .type "BaseException", .type "object"]
noncomputable def ExcC (K : PySem.W.Frag) (C : Addr) : Prop := PySem.W.excIn K C veMro "ValueError.__new__" = true
theorem ExcC.at {K : PySem.W.Frag} {C : Addr} {h : Heap} (q : ExcC K C) (X : K.In h) : ∃ bm N nm qn bs hd sn sub ab col dd k0 k1 k2 k3 k5 mN,
    h.get? C = some (excClassObj nm qn C N bs bm hd sn sub ab col dd k0 k1 k2 k3 k5 "ValueError.__new__") ∧ h.Ns N mN ∧ mN "__init__" = none ∧ OwnTail h veMro bm := by
  unfold ExcC PySem.W.excIn at q
  cases hl : K.lookup C with
  | none => rw [hl] at q; cases q
  | some o =>
    rw [hl] at q
    split at q
    · rename_i dd cd sl ho
      cases ho
      split at q
      · rename_i C' bm k0 k1 k2 k3 n k5 hm hs
        rw [Bool.and_eq_true, Bool.and_eq_true, Bool.and_eq_true, Bool.and_eq_true, Bool.and_eq_true] at q
        obtain ⟨⟨⟨⟨⟨q1, q2⟩, q3⟩, q4⟩, q5⟩, q6⟩ := q
        have e1 : C' = C := by simpa using q1
        have e2 : n = "ValueError.__new__" := by simpa using q2
        subst e1 e2
        obtain ⟨nm, bs, mro, ns, qn, hd, sn, sub, ab, col, del⟩ := cd
        have e3 : del = false := by simpa using q3
        have em : mro = .ref C' :: bm := hm
        subst e3 em
        have es : sl = #[k0, k1, k2, k3, some (.builtin "ValueError.__new__"), k5] := by
          obtain ⟨l⟩ := sl
          have : l = [k0, k1, k2, k3, some (.builtin "ValueError.__new__"), k5] := hs
          rw [this]
        subst es
        exact ⟨bm, ns, nm, qn, bs, hd, sn, sub, ab, col, dd, k0, k1, k2, k3, k5, _, X _ _ hl, .of_isNs (PySem.W.isNs_of_in X q5), PySem.W.nsMap_none_of_in X q5 (by simpa using q6), PySem.W.tail_of_in X q4⟩
      · cases q
    · cases q
theorem ObjOk.ex {P : Program} {w : World} {H : Hp} {h : Heap} {a : Addr} {o : HO} (x : ObjOk P w H h a o) : ∃ ob, h.get? a = some ob := by
  cases o with
  | lst xs => obtain ⟨_, _, _, _, e⟩ := x; exact ⟨_, e⟩
  | tup xs => obtain ⟨_, _, _, ob, e, _⟩ := x; exact ⟨_, e⟩
  | dK kvs => obtain ⟨_, _, _, _, o, _, _, e, _⟩ := x; exact ⟨_, e⟩
  | dT kvs => obtain ⟨_, _, _, _, o, _, _, e, _⟩ := x; exact ⟨_, e⟩
  | set S n => obtain ⟨o, _, _, _, e, _⟩ := x; exact ⟨_, e⟩
  | ins C dx fs => obtain ⟨_, _, _, e, _⟩ := x; exact ⟨_, e⟩
  | own y => exact x
  | xd fs => obtain ⟨_, ⟨_, _, _, e, _⟩, _⟩ := x; exact ⟨_, e⟩
  | rng lo hi => obtain ⟨_, _, _, e⟩ := x; exact ⟨_, e⟩
  | frz ob u => obtain ⟨e, _⟩ := x; exact ⟨_, e⟩
  | tbl ps => exact ⟨_, (show h.get? a = some _ from x)⟩
  | met f y => exact ⟨_, (show h.get? a = some _ from x)⟩
  | ext φ => obtain ⟨_, e, _⟩ := x; exact e
section
variable {X : Cx} {E : XK}
theorem Cx.Body.raised (D : X.Body E) {pins : List (Addr × Obj)} {σ : St} {H : Hp} {s : Shared} {h' : Heap} {e : Addr} {cls : Value} {us : List Value} (I : Inv X pins σ H s) (hx : Heap.MadeExcOf s.heap h' e cls us) (q : E cls none H) :
    X.xe (.ref e) { s with heap := h' } := by
  rw [D.xe]
  have hfr : X.A.frames = some (X.env :: X.outer) := by rw [I.ok.frames, D.stk]
  have hin : ∀ env ∈ X.stack, ∀ a, env.frame = some a → a ∈ frs X.stack := fun env he a ha => List.mem_filterMap.mpr ⟨env, he, ha⟩
  have hl : s.heap.FunFrames (PySem.W.hideAll s.heap (frs X.stack)) (X.env :: X.outer) := by
    have := PySem.W.funFrames_hide I.stack hin
    rw [D.stk] at this ⊢
    exact this
  refine wpAny_leaves_madeW hfr D.frm (fun b o q => PySem.W.of_hideAll _ q) hl hx fun h'' t f1 f2 f3 f4 => ?_
  have neL : ∀ b o, X.s₀.heap.get? b = some o → b ≠ X.env.locals := fun b o q => Nat.ne_of_lt (Nat.lt_of_lt_of_le (Heap.lt_size q) I.ok.above)
  have nfr : ∀ b o, X.s₀.heap.get? b = some o → b ∉ X.fs → b ∉ frs X.stack := fun b o q hb z => by
    rw [D.stkFrs] at z
    rcases List.mem_cons.mp z with z | z
    · exact neL b o q z
    · exact hb z
  have nex : ∀ b, b ∉ X.ex := fun b => by rw [D.ex]; simp
  have inB : ∀ b o, X.s₀.heap.get? b = some o → X.H₀ b = none → b ∉ X.fs → (PySem.W.hideAll s.heap (frs X.stack)).get? b = some o := fun b o q n hb =>
    PySem.W.hideAll_get _ (I.base.keep b o q n hb (nex b)) (nfr b o q hb)
  have trB : ∀ b u, H b = some u → ∃ o, (PySem.W.hideAll s.heap (frs X.stack)).get? b = some o := fun b u q => by
    obtain ⟨o, ho⟩ := (I.hok b u q).ex
    exact ⟨o, PySem.W.hideAll_get _ ho fun z => by rw [I.stkFree b z] at q; cases q⟩
  have allB : ∀ b o, X.s₀.heap.get? b = some o → b ∉ X.fs → ∃ o', (PySem.W.hideAll s.heap (frs X.stack)).get? b = some o' := fun b o q hb => by
    obtain ⟨o1, q1⟩ := I.base.there b o q (nex b)
    exact ⟨o1, PySem.W.hideAll_get _ q1 (nfr b o q hb)⟩
  refine ⟨e, t, cls, us, H, _, rfl, I.os, I.bare, ⟨fun b o q n hb _ => f1.1 b o (inB b o q n hb), fun b o q n hb _ => ?_, fun b o q n _ => I.base.free b o q n (nex b), fun b o q _ => ?_, I.base.tups, I.base.frzs, I.base.tbls⟩,
    I.hok.inB (fun b o q => PySem.W.of_hideAll _ q) f1.1 trB, f1, f2, f3, inB, trB, allB, q⟩
  · obtain ⟨sl, e1⟩ := I.base.slot b o q n hb (nex b)
    obtain ⟨_, oo, hoo, hnf⟩ := I.funs.mem hb
    obtain ⟨sl', e2⟩ := f4 b oo (hx.keeps b oo hoo) hnf
    rw [e1] at hoo
    cases hoo
    exact ⟨sl', e2⟩
  · by_cases hb : b ∈ X.fs
    · obtain ⟨_, o', ho', _⟩ := f1.2.2.1.mem hb
      exact ⟨o', ho'⟩
    · obtain ⟨o', ho'⟩ := allB b o q hb
      exact ⟨o', f1.1 b o' ho'⟩
noncomputable def tRaise (E : XK) (c : Value) (t : TA) : TS := fun _ σ H => t σ H fun vs H1 => vs.length ≤ sizeLine ∧ E c none H1
theorem ps_raise {x : Str} {C : Addr} {np cpos pos : Pos} {e₀ : Expr} {es : List Expr} {t : TA} (D : X.Body E) (hc : X.calm = true) (hg : Gl X x) (hm : X.mg x = some (.ref C)) (hq : ExcC X.K C) (ha : PA X (e₀ :: es) t)
    (hs : isStar e₀ = false := by rfl) (hpl : (backTo cpos (starEach es X.env)).any (·.1) = false := by rfl) (hd : (x == ("__debug__" : Str)) = false := by decide) :
    PS X (.Raise (some (.Call (.Name x np) (e₀ :: es) [] cpos)) none pos) (tRaise E (.ref C) t) := by
  intro pins s σ H Dn I h
  obtain ⟨bm, N, nm, qn, bs, hdd, sn, sub, ab, col, dd, k0, k1, k2, k3, k5, mN, hC, hN, hni, T⟩ := hq.at I.mod.kin
  have he : starEach (e₀ :: es) X.env = (false, eval e₀ X.env) :: starEach es X.env := starEach_plain hs
  refine wpAny_Raise_call_subT (C := C) (nm := nm) (q := qn) (N := N) (bs := bs) (bm := bm) (hdct := hdd) (sn := sn) (sub := sub) (ab := ab) (col := col) (dd := dd) (k0 := k0) (k1 := k1) (k2 := k2) (k3 := k3) (k5 := k5)
    PySem.F.excBase_ValueError (mN := mN) (T.hasType PySem.F.excBase_ValueError.hasBase) (I.ok.hd hc) (by rw [he]; exact hpl) hni (ld_glob I hg hm ⟨rfl, ?_⟩ hd)
  have ha' := ha cpos pins s σ H _ I h
  rw [he] at ha' ⊢
  refine Calls.evalArgs_plain (thn ha' fun us s1 ⟨vs, H1, I1, r1, hz, q1⟩ => ⟨rfl, by rw [← r1.length]; exact hz, I1.bk _ _ hC, hN.keeps I1.bk, T.keeps I1.bk, fun h' e hx => D.raised I1 hx q1⟩)
end
end L2
namespace L2
open PySem PySem.Spec PySem.Calls PyProof.Rows PySem.W
open PySem.Builtin PySem.Builtin.ObjectAttr PySem.Builtin.Getset_descriptor

section
variable {prog : Program} {w : World} {A : Around} {E : Value → Shared → Prop} {s : Shared} {K : Frag} {e C : Addr}
end
end L2
namespace L2
open PySem PySem.Spec PySem.Calls PyProof.Rows

section
variable {X : Cx} {pins : List (Addr × Obj)} {σ : St} {H : Hp} {s : Shared}
end
end L2
namespace L2
open PySem PySem.Spec PySem.Calls PyProof.Rows
section
variable {X : Cx}
end
end L2
namespace L2
open PySem PySem.Spec PySem.Calls PyProof.Rows
section
variable {P : Program} {w : World} {K : PySem.W.Frag} {mg : Str → Option Value} {base : Heap}
end
section
variable {X : Cx} {k : Nat} {f : Addr} {fd : FuncData} {ps : List Str} {sp : Sp} {x : Str} {e : Expr} {es : List Expr} {t : TA} {p pos : Pos}
end
end L2
namespace L2
open PySem PySem.Spec PySem.Calls PyProof.Rows PySem.W
noncomputable def BMain (mg : Str → Option Value) (base : Heap) : Prop := ∃ bm ob, mg "__builtins__" = some (.ref bm) ∧ bm ≠ builtinsNs ∧ base.get? bm = some ob ∧ ob.cls = .type "module" ∧ ob.dict = some builtinsNs ∧ ob.data = .plain
section
variable {X : Cx} {pins : List (Addr × Obj)} {σ : St} {H : Hp} {s : Shared}
end
end L2
namespace L2
open PySem PySem.Spec PySem.Calls PyProof.Rows PySem.W
section
variable {X : Cx} {q : Str} {scope : Scope} {f c' : Addr} {cl : List (Str × Addr)} {H : Hp} {s : Shared} {NL : List Str} {E : XK}
end
end L2
namespace L2
open PySem PySem.Spec PySem.Calls PyProof.Rows PySem.W
section
variable {P : Program} {w : World} {K : Frag} {mg : Str → Option Value} {base : Heap}
end
section
variable {X : Cx}
end
end L2
namespace L2
open PySem PySem.Spec PySem.Calls PyProof.Rows PySem.W
theorem law_callT {P : Program} {w : World} {K : Frag} {mg mb : Str → Option Value} {CX : CXT} {k : Nat} {fa a : Addr} {fd : FuncData} {x : Str} {sp : Sp} {s₁ : Shared} {vs : List Value} {ns : List Int} {tabs : List (Addr × Addr)}
    (KX : K.In s₁.heap) (hns : s₁.heap.Ns mainGlobals mg) (hb : s₁.heap.Ns builtinsNs mb) (hbb : ∀ x : Str, x ≠ "__name__" → mb x = bootBuiltins x) (hlim : s₁.heap.NoLimit) (hg : s₁.gens = #[])
    (htab : ∀ q ∈ tabs, codeHdIn K q.1 q.2 = true ∧ K.lookup q.2 = none ∧ s₁.heap.get? q.2 = some (tabObj #[]))
    (hbm : ∃ bm ob, mg "__builtins__" = some (.ref bm) ∧ bm ≠ builtinsNs ∧ s₁.heap.get? bm = some ob ∧ ob.cls = .type "module" ∧ ob.dict = some builtinsNs ∧ ob.data = .plain)
    (ha : s₁.heap.get? a = some { cls := .type "list", data := .seq vs.toArray }) (hi : IntsAre vs ns) (hl : ns.length ≤ sizeLine) (hr : Room k callerA)
    (F : ∀ base : Heap, K.In base → base.Ns mainGlobals mg → BMain mg base → FnOk P w K mg base CX k fa fd [x] sp) (hbind : ∀ (s : Shared) (u : Value), BindsTo s fd ⟨[u], []⟩ [(x, u)])
    (hsp : ∀ H : Hp, (∀ q ∈ tabs, H q.2 = some (.tbl #[])) → SqL K H a (ns.map V.int) → sp [.ref a] H (fun v _ => v = .bl true) fun _ _ _ => False)
    (hCX : ∀ H e s', CX [] H s₁ (fun _ _ _ => False) e s' → False) :
    codeAny (model P w) callerA (.call (.ref fa) ⟨[.ref a], []⟩) (fun r s' => r = .ok (.ret (.bool true)) ∧ OldK s₁.heap s'.heap ∧ s'.os = s₁.os ∧ AllBare s'.gens) s₁ := by
  have rv := vals_ints hi
  have lenV := hi.length
  have core : ∀ H : Hp, SqL K H a (ns.map V.int) → HOk P w H s₁.heap → (∀ q ∈ tabs, H q.2 = some (.tbl #[])) → (∀ b u, H b = some u → (∃ q ∈ tabs, b = q.2) ∨ (b = a ∧ K.lookup a = none ∧ ∃ o ys, u = .frz o (.lst ys))) →
      codeAny (model P w) callerA (.call (.ref fa) ⟨[.ref a], []⟩) (fun r s' => r = .ok (.ret (.bool true)) ∧ OldK s₁.heap s'.heap ∧ s'.os = s₁.os ∧ AllBare s'.gens) s₁ := by
    intro H hS hok hT hA
    -- what is tracked is the script or a table
    have noA : ∀ {b : Addr} {o : Obj}, s₁.heap.get? b = some o → (∀ ws, o.data ≠ .fields ws) → (∀ ws n, o.data ≠ .seq ws n) → H b = none := fun {b o} e d1 d2 => by
      cases z : H b with
      | none => rfl
      | some u =>
        rcases hA b u z with ⟨q, hq, rfl⟩ | ⟨rfl, _⟩
        · have := (htab q hq).2.2
          rw [e] at this
          cases this
          exact absurd rfl (d1 #[])
        · rw [ha] at e
          cases e
          exact absurd rfl (d2 vs.toArray 0)
    have nsK : ∀ {b : Addr} {m : Str → Option Value}, s₁.heap.Ns b m → (hidT s₁.heap H).Ns b m := fun {b m} ⟨o, es, ep, e, d, r⟩ => ⟨o, es, ep, hidT_get e (noA e (fun ws z => by rw [d] at z; cases z) fun ws n z => by rw [d] at z; cases z), d, r⟩
    have hKb : K.In (hidT s₁.heap H) := fun b o e => hidT_get (KX b o e) (by
      cases z : H b with
      | none => rfl
      | some u =>
        rcases hA b u z with ⟨q, hq, rfl⟩ | ⟨rfl, hk, _⟩
        · rw [(htab q hq).2.1] at e; cases e
        · rw [hk] at e; cases e)
    have hM : Mod K mg (hidT s₁.heap H) := ⟨hKb, nsK hns, ⟨mb, nsK hb, hbb⟩, let ⟨mc, h1, h2⟩ := hlim; ⟨mc, nsK h1, h2⟩⟩
    have hB : BMain mg (hidT s₁.heap H) := by
      obtain ⟨bm, ob, b1, b2, b3, b4, b5, b6⟩ := hbm
      exact ⟨bm, ob, b1, b2, hidT_get b3 (noA b3 (fun ws z => by rw [b6] at z; cases z) fun ws n z => by rw [b6] at z; cases z), b4, b5, b6⟩
    have e0 : Env0 P w K mg (hidT s₁.heap H) callerA [] s₁ H := ⟨rfl, hM, fun b o e => of_hidT e, Nat.le_of_eq (hidT_size _ _), trivial, fun b hb => absurd (show b ∈ ([] : List Addr) from hb) (by simp), hok, .of_eq hg⟩
    refine codeAny_mono ((F _ hKb (nsK hns) hB).run callerA [] s₁ H ⟨[.ref a], []⟩ [.ref a] [.ref a] _ _ hr e0 (hbind s₁ (.ref a)) (.cons rfl .nil) (hsp H hT hS)) fun r s' h => ?_
    cases r with
    | error e => exact (hCX H e s' h).elim
    | ok fl =>
      cases fl with
      | next => exact False.elim h
      | brk => exact False.elim h
      | cont => exact False.elim h
      | ret u =>
        obtain ⟨v, H', os, bare, un, hok', r', q⟩ := h
        have q' : v = .bl true := q
        subst q'
        obtain rfl : u = Value.bool true := r'
        refine ⟨rfl, ⟨fun b o e => ?_, fun b o e => un.there b o e (by simp)⟩, os, bare⟩
        cases z : H b with
        | none => exact .inl (un.keep b o e z (by intro y; exact absurd (show b ∈ ([] : List Addr) from y) (by simp)) (by simp))
        | some u =>
          rcases hA b u z with ⟨q, hq, rfl⟩ | ⟨_, _, ob, ys, rfl⟩
          · obtain ⟨hc, _, hP⟩ := htab q hq
            obtain ⟨more, z2⟩ := un.tbls q.2 #[] (hT q hq)
            have e2 : s'.heap.get? q.2 = some { cls := .none, data := .fields (#[] ++ more) } := hok' q.2 _ z2
            rw [hP] at e
            cases e
            exact .inr (.inl ⟨((codeHd_of_K KX hc).tab hP).isCodeTable, rfl, #[], more, rfl, e2⟩)
          · have z2 := un.frzs b ob _ z
            obtain ⟨e1, _⟩ := hok b _ z
            obtain ⟨e2, _⟩ := hok' b _ z2
            rw [e] at e1
            cases e1
            exact .inl e2
  have aT : ∀ q ∈ tabs, q.2 ≠ a := fun q hq z => by
    have := (htab q hq).2.2
    rw [z, ha] at this
    cases this
  cases hk : K.lookup a with
  | some o =>
    have e := KX a o hk
    rw [ha] at e
    cases e
    refine core (fun b => if b ∈ tabs.map (·.2) then some (.tbl #[]) else none) (.inr ⟨_, vs.toArray, _, hk, rfl, rfl, rfl, by rw [List.size_toArray, lenV]; exact hl, by simpa using rv⟩) (fun b u z => ?_) (fun q hq => if_pos (List.mem_map_of_mem hq)) fun b u z => ?_
    · by_cases hb : b ∈ tabs.map (·.2)
      · have z' := (if_pos hb).symm.trans z
        cases z'
        obtain ⟨q, hq, rfl⟩ := List.mem_map.mp hb
        exact (htab q hq).2.2
      · have z' := (if_neg hb).symm.trans z
        cases z'
    · by_cases hb : b ∈ tabs.map (·.2)
      · obtain ⟨q, hq, rfl⟩ := List.mem_map.mp hb
        exact .inl ⟨q, hq, rfl⟩
      · have z' := (if_neg hb).symm.trans z
        cases z'
  | none =>
    refine core (fun b => if b ∈ tabs.map (·.2) then some (.tbl #[]) else if b = a then some (.frz { cls := .type "list", data := .seq vs.toArray } (.lst (ns.map V.int))) else none) ?_ (fun b u z => ?_) (fun q hq => if_pos (List.mem_map_of_mem hq)) fun b u z => ?_
    · refine .inl (.inr ⟨{ cls := .type "list", data := .seq vs.toArray }, ?_⟩)
      have na : a ∉ tabs.map (·.2) := fun z => by
        obtain ⟨q, hq, e⟩ := List.mem_map.mp z
        exact aT q hq e
      exact (if_neg na).trans (if_pos rfl)
    · by_cases hb : b ∈ tabs.map (·.2)
      · have z' := (if_pos hb).symm.trans z
        cases z'
        obtain ⟨q, hq, rfl⟩ := List.mem_map.mp hb
        exact (htab q hq).2.2
      · have z' := (if_neg hb).symm.trans z
        by_cases hba : b = a
        · have z'' := (if_pos hba).symm.trans z'
          cases z''
          subst hba
          exact ⟨ha, by rw [List.length_map]; exact hl, vs, _, rv, ha⟩
        · have z'' := (if_neg hba).symm.trans z'
          cases z''
    · by_cases hb : b ∈ tabs.map (·.2)
      · obtain ⟨q, hq, rfl⟩ := List.mem_map.mp hb
        exact .inl ⟨q, hq, rfl⟩
      · have z' := (if_neg hb).symm.trans z
        by_cases hba : b = a
        · have z'' := (if_pos hba).symm.trans z'
          cases z''
          exact .inr ⟨hba, hk, _, _, rfl⟩
        · have z'' := (if_neg hba).symm.trans z'
          cases z''
theorem walk_ofT {l : OpenLaw} {n k : Nat} {q : Program} {loose : List Str} {XP : (Str → Option Value) → Heap → Prop} {YP : World → Heap → Prop} {d : DefRec} {K : Params → Frag} {sp : World → Sp} {x : Str} (tabs : List (Addr × Addr))
    (hn : l.most = some n) (hn2 : n ≤ sizeLine) (hdf : d.params.defaults = []) (hr : Room k callerA)
    (hY : ∀ (w : World) (h : Heap), YP w h → (K w.params).In h ∧ ∀ p ∈ tabs, h.get? p.2 = some (tabObj #[]))
    (hK : ∀ (w : World), ∀ p ∈ tabs, codeHdIn (K w.params) p.1 p.2 = true ∧ (K w.params).lookup p.2 = none)
    (F : ∀ (w : World) (mg : Str → Option Value) (fa : Addr) (h : Heap), (K w.params).In h → h.Ns mainGlobals mg → mg d.name = some (.ref fa) →
      ∃ fd : FuncData, (∀ (s : Shared) (u : Value), BindsTo s fd ⟨[u], []⟩ [(x, u)]) ∧
        ∀ base : Heap, (K w.params).In base → base.Ns mainGlobals mg → BMain mg base → FnOk l.prog w (K w.params) mg base CX0 k fa fd [x] (sp w))
    (hsp : ∀ (w : World) (H : Hp) (a : Addr) (ns : List Int), ns.length ≤ n → (∀ p ∈ tabs, H p.2 = some (.tbl #[])) → SqL (K w.params) H a (ns.map V.int) → sp w [.ref a] H (fun v _ => v = .bl true) fun _ _ _ => False) :
    WalkO q loose XP YP l.row.toRowW d [] (fun f vs => PySem.call f vs) := by
  refine Att.attach_call hn hdf fun w s₀ s₁ mg mb fa o pm cd doc a vs ns G Y ho hd hcd hmg hobj hints hlen hg => ?_
  obtain ⟨KX, hts⟩ := hY w _ Y
  obtain ⟨fd, hb, hF⟩ := F w mg fa _ KX G.T.g hmg
  exact law_callT (tabs := tabs) KX G.T.g G.T.b G.T.builtins G.T.nolimit hg (fun p hp => ⟨(hK w p hp).1, (hK w p hp).2, hts p hp⟩) G.T.bmain hobj hints (Nat.le_trans hlen hn2) hr hF hb (fun H hT hS => hsp w H a ns hlen hT hS) fun H e s' z => z
end L2
namespace L2
open PySem PySem.Spec PySem.Calls PyProof.Rows PySem.W
section
variable {X : Cx}
theorem strsAre_of : ∀ {ss : List Str} {us : List Value}, Vals (ss.map V.str) us → StrsAre us ss
  | [], _, r => by rw [List.map_nil] at r; cases r; exact .nil
  | x :: ss, _, r => by
    rw [List.map_cons] at r
    cases r with
    | cons r1 r2 =>
      obtain ⟨t, rfl⟩ := r1
      exact .cons _ _ (strsAre_of r2)
theorem vals_strs : ∀ {us : List Value} {ss : List Str}, StrsAre us ss → Vals (ss.map V.str) us
  | _, _, .nil => .nil
  | _, _, .cons _ t r => .cons ⟨t, rfl⟩ (vals_strs r)
inductive SortedS (K : PySem.W.Frag) (xs : List V) (H : Hp) (Q : VK) : Prop
  | mk (a : Addr) (ss : List Str) (h0_ : xs = [.ref a]) (h1_ : SqL K H a (ss.map V.str)) (h2_ : ss.length < 64) (h3_ : ∀ (p : Addr) (ss' : List Str), H p = none → ss'.Perm ss → sortedS ss' = true → Q (.ref p) (upd H p (.lst (ss'.map V.str))))
theorem call_sortedS : CallR X (.builtin "sorted") (SortedS X.K) := by
  intro pins s σ H xs us Q I r h
  obtain ⟨a, ss, rfl, hs, h64, q⟩ := h
  obtain ⟨u, rfl, rx⟩ := vals1 r
  cases rx
  obtain ⟨its, rv, pl, hz⟩ := I.list hs
  have hl : its.length = ss.length := by rw [← rv.length, List.length_map]
  refine sorted_strs pl.isList (strsAre_of rv) (by omega) fun out ss' a1 a2 a3 => ?_
  obtain ⟨e, he⟩ := sortedAll_at s.heap its out
  have hn : H (s.heap.objs.size + 1) = none := I.hok.fresh (Nat.le_succ _)
  refine ⟨.ref (s.heap.objs.size + 1), _, I.laid (t' := s.toks) (fun b o z => sortedAll_old z) (Nat.le_succ _) ?_, rfl, q _ ss' hn a2 a3⟩
  have hl' : ss'.length = ss.length := a2.length_eq
  exact ⟨by rw [List.length_map, hl', sizeLine_eq]; omega, out.toList, e, vals_strs a1, he⟩
noncomputable def rStr : V → Hp → VK → Prop := fun x H Q => ∃ z, x = .str z ∧ z.length ≤ sizeLine ∧ Q (.str z) H
theorem pe_fmt {e : Expr} {te : TE} {pos : Pos} (he : PE X e te) : PE X (.FormattedValue e (-1) none pos) (tUn rStr te) := by
  intro pins s σ H Q I h
  refine FormattedValue_plain (thn (he pins s σ H _ I h) fun v s1 ⟨x, H1, I1, r1, z, e1, hz, q⟩ => ?_)
  subst e1
  obtain ⟨t, rfl⟩ := r1
  exact formatField_str (fun t' tk => ⟨.str z, H1, I1.tok tk, ⟨_, rfl⟩, q⟩) hz
noncomputable def tJoin : List TE → Str → TE
  | [], out => fun _ H Q => out.length ≤ sizeLine ∧ Q (.str out) H
  | t :: r, out => fun σ H Q => t σ H fun x H1 => ∃ y, x = .str y ∧ (out ++ y).length ≤ sizeLine ∧ tJoin r (out ++ y) σ H1 Q
noncomputable def PJ (X : Cx) (ps : List (Sem Value)) (ts : List TE) : Prop :=
  ∀ (out : Str) (pins : List (Addr × Obj)) (s : Shared) (σ : St) (H : Hp) (Q : VK), Inv X pins σ H s → tJoin ts out σ H Q → wpAny (model X.prog X.w) X.A (joinParts out ps) (EP X pins σ Q) X.xe s
theorem pj_nil : PJ X [] [] := fun out pins s σ H Q I ⟨hz, q⟩ => joinParts_nil ⟨.str out, H, I.tok _, ⟨_, rfl⟩, q⟩ hz
theorem pj_cons {e : Expr} {te : TE} {ps : List (Sem Value)} {ts : List TE} (he : PE X e te) (hr : PJ X ps ts) : PJ X (eval e X.env :: ps) (te :: ts) := by
  intro out pins s σ H Q I h
  refine joinParts_cons (thn (he pins s σ H _ I h) fun v s1 ⟨x, H1, I1, r1, y, e1, hz, q⟩ => ?_)
  subst e1
  obtain ⟨t, rfl⟩ := r1
  exact ⟨hz, hr _ pins s1 σ H1 Q I1 q⟩
theorem pe_join3 {a b c : Expr} {ta tb tc : TE} {pos : Pos} (ha : PE X a ta) (hb : PE X b tb) (hc : PE X c tc) : PE X (.JoinedStr [a, b, c] pos) (tJoin [ta, tb, tc] Str.empty) := by
  intro pins s σ H Q I h
  exact JoinedStr_many ((pj_cons ha (pj_cons hb (pj_cons hc pj_nil))) Str.empty pins s σ H Q I h)
end
end L2
namespace L2
open PySem PySem.Spec PySem.Calls PyProof.Rows PySem.W
noncomputable def Ite (K : Frag) (a : Addr) : It :=
  ⟨fun i H => ∃ xs x, SqL K H a xs ∧ xs[i]? = some x, fun i H y H' => ∃ (t : Addr) (x : V), H t = none ∧ y = .ref t ∧ H' = upd H t (.tup [.int i, x]) ∧ ∀ xs, SqL K H a xs → xs[i]? = some x, fun i H => ∃ xs, SqL K H a xs ∧ xs.length ≤ i⟩
theorem turn_enum {P : Program} {w : World} {K : Frag} {elts : List Expr} {x1 : Nat} {tpos : Pos} (a e it : Addr) (hne : e ≠ it) :
    Turn P w K (.Tuple elts x1 tpos) (Ite K a) [e, it] e (fun i h => (∃ old, IsEnum h e it i old) ∧ h.IsListIter it a i) where
  mem := by simp
  obj := fun i h st b hb => by
    obtain ⟨⟨old, h1⟩, o, h2, c, d⟩ := st
    rcases List.mem_cons.mp hb with rfl | hb
    · exact ⟨_, h1, fun v z => by cases z⟩
    · have e' : b = it := by simpa using hb
      subst e'
      exact ⟨o, h2, fun v z => by rw [d] at z; cases z⟩
  keep := fun i h h' st k => by
    obtain ⟨⟨old, h1⟩, h2⟩ := st
    exact ⟨⟨old, k e (by simp) _ h1⟩, h2.at fun o z => k it (by simp) o z⟩
  item := by
    intro X hP hw hK hc i pins s σ H E I hf st hg
    subst hP hw hK
    obtain ⟨xs, x, hq, hx⟩ := hg
    obtain ⟨its, rv, p, hz⟩ := I.list hq
    obtain ⟨u, hu, ru⟩ := rv.get hx
    obtain ⟨⟨old, he⟩, hit⟩ := st
    have fe := hf e (by simp)
    have fi := hf it (by simp)
    refine wpAny_pyNext_enum_item he hit p.isList (x := u) (by simpa using hu) hne fun h1 eo hit1 htup hsz hk => ⟨.ref s.heap.objs.size, rfl, wpAny_letOwnedTupleGo_enum eo fun h2 en sb => ?_⟩
    have hn : H s.heap.objs.size = none := I.hok.fresh (Nat.le_refl _)
    have nes : e ≠ s.heap.objs.size := Nat.ne_of_lt (Heap.lt_size he)
    have kp : ∀ b o, b ≠ e → b ≠ it → s.heap.get? b = some o → h2.get? b = some o := fun b o n1 n2 z => (sb.2 b n1).trans (hk b o n1 n2 z)
    have nH : ∀ b v, H b = some v → b ≠ e ∧ b ≠ it := fun b v z => ⟨fun y => (by rw [y, fe.1] at z; cases z), fun y => (by rw [y, fi.1] at z; cases z)⟩
    have nS : ∀ b v, H b = some v → b ≠ s.heap.objs.size := fun b v z => ne_of_none z hn
    have I2 : Inv X pins σ (upd H s.heap.objs.size (.tup [.int i, x])) { s with heap := h2, toks := s.toks + 1 } := by
      refine I.step (g' := s.gens) (d' := s.drawn) (ch := [e, it]) (fun b hb => ?_) (fun b o _ _ hc z _ => kp b o (fun y => hc (by simp [y])) (fun y => hc (by simp [y])) z) (fun b o _ _ hc z _ => ⟨o.slots, kp b o (fun y => hc (by simp [y])) (fun y => hc (by simp [y])) z⟩)
        (fun b o _ z n => by rw [upd_ne (Nat.ne_of_lt (Heap.lt_size z))]; exact n) (fun b o hc z => ⟨o, kp b o (fun y => hc (by simp [y])) (fun y => hc (by simp [y])) z⟩) (fun b ys z => by rw [upd_ne (nS b _ z)]; exact z) (fun b o v z => by rw [upd_ne (nS b _ z)]; exact z)
        (fun b ps z => ⟨#[], by rw [upd_ne (nS b _ z), z]; simp⟩) (fun m hm => ?_) (fun b v z => ?_) I.bare
      · rcases List.mem_cons.mp hb with rfl | hb
        · exact ⟨fe.2.2.2.1, fe.2.1, fe.2.2.2.2.1, fe.2.2.2.2.2⟩
        · have e' : b = it := by simpa using hb
          subst e'
          exact ⟨fi.2.2.2.1, fi.2.1, fi.2.2.2.2.1, fi.2.2.2.2.2⟩
      · obtain ⟨o, es, ep, ho, r⟩ := hm
        exact ⟨o, es, ep, kp _ o (Ne.symm fe.2.1) (Ne.symm fi.2.1) ho, r⟩
      · by_cases hb : b = s.heap.objs.size
        · subst hb
          rw [upd_same] at z
          cases z
          exact ⟨by show 2 ≤ sizeLine; decide, [.int i s.toks, u], .cons ⟨_, rfl⟩ (.cons ru .nil), ⟨_, (sb.2 _ (Ne.symm nes)).trans htup, rfl, _, rfl⟩⟩
        · rw [upd_ne hb] at z
          refine (I.hok b v z).stay (fun c y hc q => kp c y ?_ ?_ q) (fun c q => by rw [upd_ne (nS c _ q)]; exact q) fun c ys q => by rw [upd_ne (nS c _ q)]; exact q
          · rcases hc with rfl | hc
            · exact (nH c v z).1
            · exact (nH c _ hc).1
          · rcases hc with rfl | hc
            · exact (nH c v z).2
            · exact (nH c _ hc).2
    refine ⟨.ref s.heap.objs.size, _, I2, rfl, ⟨s.heap.objs.size, x, hn, rfl, rfl, fun ys hy => by rw [I.list_inj hy hq]; exact hx⟩, ⟨⟨u, en⟩, ?_⟩, fun b hb => ?_⟩
    · obtain ⟨o, z, c, d⟩ := hit1
      exact ⟨o, (sb.2 it (Ne.symm hne)).trans z, c, d⟩
    · rw [upd_ne ?_]
      · exact (hf b hb).1
      · rcases List.mem_cons.mp hb with rfl | hb
        · exact nes
        · have e' : b = it := by simpa using hb
          subst e'
          obtain ⟨o, z, _⟩ := hit
          exact Nat.ne_of_lt (Heap.lt_size z)
  done := by
    intro X hP hw hK hc i pins s σ H E I hf st hg
    subst hP hw hK
    obtain ⟨xs, hq, hlen⟩ := hg
    obtain ⟨its, rv, p, hz⟩ := I.list hq
    obtain ⟨⟨old, he⟩, hit⟩ := st
    have fi := hf it (by simp)
    have hl := rv.length
    have hn : its.toArray[i]? = none := by
      rw [List.getElem?_toArray]
      exact List.getElem?_eq_none_iff.mpr (by omega)
    exact wpAny_pyNext_enum_end (I.ok.hd hc) he hit p.isList hn fun h' ext => ⟨rfl, I.turned (t' := s.toks) (fun b o hb z => ext b o hb z) fi.1 fi.2.1 fi.2.2.2.1 fi.2.2.2.2.1 fi.2.2.2.2.2⟩
  self := fun _ i s _ _ ⟨⟨_, h1⟩, _⟩ h => wpAny_pyIter_enum h1 h
section
variable {X : Cx} {elts : List Expr} {x1 : Nat} {tpos : Pos}
inductive IsEn (K : Frag) (vs : List V) (H1 : Hp) (R : It → Hp → Prop) : Prop
  | mk (a : Addr) (h1 : vs = [.ref a]) (h2 : ∃ xs, SqL K H1 a xs) (r : R (Ite K a) H1)
noncomputable def iEnum (K : Frag) (ta : TA) : TI := fun σ H R => ta σ H fun vs H1 => IsEn K vs H1 R
theorem pi_enum {l : Expr} {ta : TA} {p pos : Pos} (hg : Gl X "enumerate") (hm : X.mg "enumerate" = none) (ha : PA X [l] ta) (hs : isStar l = false := by rfl) : PI X (.Tuple elts x1 tpos) (.Call (.Name "enumerate" p) [l] [] pos) (iEnum X.K ta) := by
  intro pins s σ H R I h
  have he : starEach [l] X.env = [(false, eval l X.env)] := starEach_plain hs
  refine Call_ (ld_blt I hg hm Bo.enumerate (PyProof.Rows.callWith_type1 (thn (ha pos pins s σ H _ I h) fun us s1 ⟨vs, H1, I1, r1, a, e1, ⟨xs, hq⟩, q⟩ => ?_) he rfl))
  subst e1
  obtain ⟨u, rfl, rx⟩ := vals1 r1
  cases rx
  obtain ⟨its, rv, pl, hz⟩ := I1.list hq
  refine call_enumerate_list pl.isList fun h' h1 h2 h3 h4 => ?_
  have I2 : Inv X pins σ H1 { s1 with heap := h' } := I1.kept (t' := s1.toks) h4
  refine wpAny_pyIter_enum h1 ⟨s1.heap.objs.size + 1, [s1.heap.objs.size + 1, s1.heap.objs.size], _, Ite X.K a, H1, rfl, I2, turn_enum a _ _ (Nat.succ_ne_self _), ⟨⟨_, h1⟩, h2⟩, fun b hb => ?_, q⟩
  have hge : s1.heap.objs.size ≤ b := by
    rcases List.mem_cons.mp hb with rfl | hb
    · exact Nat.le_succ _
    · have e' : b = s1.heap.objs.size := by simpa using hb
      rw [e']
      exact Nat.le_refl _
  exact I1.fpOk hge (I1.hok.fresh hge)
theorem blk_enum {K : Frag} {a D : Addr} {xs : List V} {g : TG} {tc : TT} {te : TE} {R : Hp → Prop} {σ : St} {H : Hp} (Pv : Nat → St → Hp → Prop) (h0 : Pv 0 σ H)
    (hl : ∀ i σ H, i ≤ xs.length → Pv i σ H → SqL K H a xs)
    (hs : ∀ i x σ H t, xs[i]? = some x → Pv i σ H → H t = none → g (.ref t) σ (upd H t (.tup [.int i, x])) fun σ2 H2 => tc σ2 H2 fun b H3 => if b = true then te σ2 H3 fun y H4 => ∃ ys, H4 D = some (.lst ys) ∧ ys.length < sizeLine ∧ Pv (i + 1) σ2 (upd H4 D (.lst (ys ++ [y]))) else Pv (i + 1) σ2 H3)
    (hd : ∀ σ H, Pv xs.length σ H → R H) : tBlk (Ite K a) D g tc te R σ H := by
  refine ⟨fun i m σ H => m = xs.length - i ∧ i ≤ xs.length ∧ Pv i σ H, ⟨xs.length, by simp, Nat.zero_le _, h0⟩, ?_⟩
  rintro i m σ H ⟨rfl, hi, p⟩
  have q := hl i σ H hi p
  by_cases hlt : i < xs.length
  · refine .inr ⟨⟨xs, xs[i], q, by simp [hlt]⟩, Pv (i + 1), fun σ' H' p' => ⟨xs.length - (i + 1), by omega, rfl, hlt, p'⟩, fun x H' y => ?_⟩
    obtain ⟨t, v, ht, rfl, rfl, hv⟩ := y
    exact hs i v σ H t (hv xs q) p ht
  · have e : i = xs.length := by omega
    subst e
    exact .inl ⟨⟨xs, q, Nat.le_refl _⟩, hd σ H p⟩
end
end L2
namespace L2
open PySem PySem.Spec PySem.Calls PyProof.Rows PySem.W
section
variable {X : Cx}
theorem range_all_eq {α : Type} [DecidableEq α] : ∀ (xs ys : List α), xs.length = ys.length → ((List.range xs.length).all fun j => decide (xs[j]? = ys[j]?)) = decide (xs = ys) := by
  intro xs ys hl
  rw [Bool.eq_iff_iff, List.all_eq_true, decide_eq_true_iff]
  constructor
  · intro h
    refine List.ext_getElem? fun i => ?_
    by_cases hi : i < xs.length
    · exact of_decide_eq_true (h i (List.mem_range.mpr hi))
    · rw [List.getElem?_eq_none_iff.mpr (by omega), List.getElem?_eq_none_iff.mpr (by omega)]
  · rintro rfl j _
    exact decide_eq_true rfl
theorem strs_eqAt {A : Around} {s : Shared} {ss ts : List Str} {us ws : List Value} (r : Vals (ss.map V.str) us) (r' : Vals (ts.map V.str) ws) (hl : ss.length = ts.length) :
    ∀ j (h1 : j < us.toArray.size) (h2 : j < ws.toArray.size), SeqAt.EqAt A s us.toArray[j] ws.toArray[j] (decide (ss[j]? = ts[j]?)) := by
  intro j h1 h2
  have l1 := r.length
  have l2 := r'.length
  rw [List.length_map] at l1 l2
  have g1 : j < ss.length := by rw [l1]; simpa using h1
  have g2 : j < ts.length := by rw [l2]; simpa using h2
  obtain ⟨u, e1, q1⟩ := r.get (i := j) (x := .str ss[j]) (by simp [g1])
  obtain ⟨v, e2, q2⟩ := r'.get (i := j) (x := .str ts[j]) (by simp [g2])
  obtain ⟨t, rfl⟩ := q1
  obtain ⟨t', rfl⟩ := q2
  have f1 : us.toArray[j] = .str ss[j] t := by
    have : us[j]? = some us.toArray[j] := by simp
    rw [e1] at this
    exact (Option.some.inj this).symm
  have f2 : ws.toArray[j] = .str ts[j] t' := by
    have : ws[j]? = some ws.toArray[j] := by simp
    rw [e2] at this
    exact (Option.some.inj this).symm
  rw [f1, f2]
  have eb : decide (ss[j]? = ts[j]?) = decide (ss[j] = ts[j]) := by simp [g1, g2]
  rw [eb]
  intro prog w E Q hq
  exact wpAny_eqBool_str hq
inductive rEqSs (K : Frag) (neg : Bool) (x : V) (y : V) (H : Hp) (Q : VK) : Prop
  | mk (a b : Addr) (ss ts : List Str) (h0_ : x = .ref a) (h1_ : y = .ref b) (h2_ : SqL K H a (ss.map V.str)) (h3_ : SqL K H b (ts.map V.str)) (h4_ : Q (.bl (if neg then !decide (ss = ts) else decide (ss = ts))) H)
theorem op_neSs (hu : X.A.units < cLine) : OpR X (compareOp .NotEq) (rEqSs X.K true) := by
  intro pins s σ H x y v u Q I rx ry h
  obtain ⟨a, b, ss, ts, rfl, rfl, ha, hb, q⟩ := h
  cases rx
  cases ry
  obtain ⟨us, r1, p1, _⟩ := I.list ha
  obtain ⟨ws, r2, p2, _⟩ := I.list hb
  have l1 := r1.length
  have l2 := r2.length
  rw [List.length_map] at l1 l2
  by_cases hl : ss.length = ts.length
  · refine SeqAt.RcNeAt.lists p1.isList p2.isList (by simp; omega) hu (strs_eqAt r1 r2 hl) X.prog X.w X.xe _ ⟨.bl (!decide (ss = ts)), H, I, ?_, q⟩
    rw [List.size_toArray, ← l1, range_all_eq ss ts hl]
    rfl
  · refine SeqAt.RcNeAt.lists_lengths p1.isList p2.isList (by simp; omega) hu X.prog X.w X.xe _ ⟨.bl (!decide (ss = ts)), H, I, ?_, q⟩
    rw [decide_eq_false fun z => hl (by rw [z])]
    rfl
end
end L2
namespace L2
open PySem PySem.Spec PySem.Calls PyProof.Rows PySem.W
section
variable {X : Cx}
end
end L2
namespace L2
open PySem PySem.Spec PySem.Calls PyProof.Rows PySem.W
section
variable {X : Cx} {pins : List (Addr × Obj)} {σ : St} {H : Hp} {s : Shared} {d : Addr} {kvs : List (Key × V)}
theorem Inv.freeze (I : Inv X pins σ H s) (e : H d = some (.dK kvs)) : ∃ o, Inv X pins σ (upd H d (.frz o (.dK kvs))) s := by
  have hO := I.hok d _ e
  obtain ⟨o, ho⟩ := hO.ex
  have ne : ∀ b u, H b = some u → (∀ k, u ≠ .dK k) → (upd H d (.frz o (.dK kvs))) b = some u := fun b u z n => by
    rw [upd_ne (fun y => by rw [y, e] at z; cases z; exact n kvs rfl)]
    exact z
  refine ⟨o, I.step (h' := s.heap) (g' := s.gens) (d' := s.drawn) (t' := s.toks) (ch := []) (fun b hb => nomatch hb) (fun b u _ _ _ z _ => z) (fun b u _ _ _ z _ => ⟨u.slots, z⟩)
    (fun b u _ _ n => by rw [upd_ne (fun y => by rw [y, e] at n; cases n)]; exact n) (fun b u _ z => ⟨u, z⟩) (fun b xs z => ne b _ z fun k y => by cases y) (fun b u v z => ne b _ z fun k y => by cases y)
    (fun b ps z => ⟨#[], by rw [ne b _ z fun k y => by cases y]; simp⟩) (fun m hm => hm) (fun b u z => ?_) I.bare⟩
  by_cases hb : b = d
  · subst hb
    rw [upd_same] at z
    cases z
    exact ⟨ho, hO⟩
  · rw [upd_ne hb] at z
    exact (I.hok b u z).stay (fun c y _ q => q) (fun c q => ne c _ q fun k y => by cases y) fun c ys q => ne c _ q fun k y => by cases y
inductive IsFz (v : V) (H' : Hp) (Q : VK) : Prop
  | mk (d : Addr) (kvs : List (Key × V)) (h1 : v = .ref d) (h2 : H' d = some (.dK kvs)) (q : ∀ o, Q v (upd H' d (.frz o (.dK kvs))))
noncomputable def tFreeze (t : TE) : TE := fun σ H Q => t σ H fun v H' => IsFz v H' Q
theorem pe_freeze {e : Expr} {t : TE} (h : PE X e t) : PE X e (tFreeze t) := by
  intro pins s σ H Q I q
  refine thn (h pins s σ H _ I q) fun v s1 ⟨x, H1, I1, r1, d, kvs, e1, e2, q1⟩ => ?_
  obtain ⟨o, I2⟩ := I1.freeze e2
  exact ⟨x, _, I2, r1, q1 o⟩
end
section
variable {X : Cx} {tg : Expr}
end
end L2
namespace L2
open PySem PySem.Spec PySem.Calls PyProof.Rows PySem.W
section
variable {X : Cx}
end
end L2
namespace L2
open PySem PySem.Spec PySem.Calls PyProof.Rows PySem.W
section
variable {X : Cx} {pins : List (Addr × Obj)} {σ : St} {H : Hp} {s : Shared}
end
section
variable {X : Cx}

end
end L2
namespace L2
open PySem PySem.Spec PySem.Calls PyProof.Rows PySem.W
noncomputable def unl : List Str → List Str → List Str
  | [], k => k
  | z :: r, k => unl r (if z ∈ k then k else k ++ [z])
theorem nd1 (y : Str) : [y].Nodup := List.nodup_cons.mpr ⟨fun h => (nomatch h), .nil⟩
theorem unl_mem : ∀ (r k : List Str) (z : Str), z ∈ unl r k ↔ z ∈ k ∨ z ∈ r
  | [], k, z => by simp [unl]
  | y :: r, k, z => by
    show z ∈ unl r _ ↔ _
    rw [unl_mem r]
    by_cases h : y ∈ k
    · rw [if_pos h, List.mem_cons]
      exact ⟨fun q => q.imp id .inr, fun q => q.elim .inl fun q => q.elim (fun e => .inl (e ▸ h)) .inr⟩
    · rw [if_neg h, List.mem_cons, List.mem_append, List.mem_singleton, or_assoc]
theorem unl_nodup : ∀ (r k : List Str), k.Nodup → (unl r k).Nodup
  | [], k, h => h
  | y :: r, k, h => by
    refine unl_nodup r _ ?_
    by_cases q : y ∈ k
    · rw [if_pos q]; exact h
    · rw [if_neg q]
      exact List.nodup_append.mpr ⟨h, nd1 _, fun a ha b hb e => q (by rw [← List.mem_singleton.mp hb, ← e]; exact ha)⟩
section
variable {prog : Program} {w : World}
variable {A : Around} {R : Result → Shared → Prop} {It : Addr} {fp wr : List Addr} {G : Array GenState → Array GenState → Prop} {n : Nat} {Pv : Nat → Value → Prop} {St' : Nat → Shared → Prop}
end
section
variable {prog : Program} {w : World} {A : Around} {E : Value → Shared → Prop} {s : Shared}
set_option maxHeartbeats 6000000 in
set_option maxHeartbeats 6000000 in
end
section
variable {X : Cx}
inductive RevL (K : PySem.W.Frag) (x : V) (H : Hp) (Q : VK) : Prop
  | mk (a : Addr) (xs : List V) (h1 : x = .ref a) (h2 : SqL K H a xs) (q : ∀ p, H p = none → Q (.ref p) (upd H p (.lst xs.reverse)))
noncomputable def tRev (K : PySem.W.Frag) (te : TE) (tk : TO) : TE := fun σ H Q => te σ H fun x H1 => tk σ H1 fun o H2 => o = some (-1) ∧ RevL K x H2 Q
theorem Vals.rev : ∀ {xs : List V} {us : List Value}, Vals xs us → Vals xs.reverse us.reverse := by
  intro xs us r
  induction r with
  | nil => exact .nil
  | cons q t ih =>
    rw [List.reverse_cons, List.reverse_cons]
    exact ih.append (.cons q .nil)
theorem pe_rev {e : Expr} {te : TE} {ek : Expr} {tk : TO} {pos p2 : Pos} (he : PE X e te) (hk : PO X (some ek) tk) : PE X (.Subscript e (.Slice none none (some ek) p2) pos) (tRev X.K te tk) := by
  intro pins s σ H Q I h
  refine Subscript_ (thn (he pins s σ H _ I h) fun v s1 ⟨x, H1, I1, r1, q1⟩ => ?_)
  refine wpAny_Slice (thn (po_none pins s1 σ H1 (fun o H2 => o = none ∧ H2 = H1) I1 ⟨rfl, rfl⟩) fun vl s2 ⟨l, H2, I2, pl, e1, e2⟩ => ?_)
  subst e1 e2
  refine thn (po_none pins s2 σ H2 (fun o H3 => o = none ∧ H3 = H2) I2 ⟨rfl, rfl⟩) fun vu s3 ⟨u, H3, I3, pu, e1, e2⟩ => ?_
  subst e1 e2
  refine thn (hk pins s3 σ H3 _ I3 q1) fun vk s4 ⟨o, H4, I4, pk, e1, q2⟩ => ?_
  subst e1
  obtain ⟨a, xs, rfl, hx, q⟩ := q2
  cases r1
  have I5 : Inv X pins σ H4 { s4 with heap := s4.heap.push { cls := .type "slice", data := .fields #[vl, vu, vk] } } := I4.kept (t' := s4.toks) fun b ob q => Heap.get?_push_of_some _ q
  obtain ⟨its, r, ht, hz⟩ := I5.list hx
  have hlen := r.length
  show wpAny (model X.prog X.w) X.A (subscriptTail e (.Slice none none (some ek) p2) (.ref a) (.ref s4.heap.objs.size)) (EP X pins σ Q) X.xe { s4 with heap := s4.heap.push { cls := .type "slice", data := .fields #[vl, vu, vk] } }
  refine tail_any (ops := [.ref a, .ref s4.heap.objs.size]) ht.isList.typeIs slot_list_getitem.lookup (wpAny_getItem_list_slice ht.isList (Heap.IsSliceOf.new ..) pl pu pk (by decide) ?_ (by rw [List.size_toArray]; omega)) (by with_unfolding_all rfl)
  rw [krv_pick]
  refine ⟨.ref (s4.heap.push { cls := .type "slice", data := .fields #[vl, vu, vk] }).objs.size, _, I5.laid (t' := s4.toks) (o := .lst xs.reverse) (fun b ob q => Heap.get?_push_of_some _ q) (Nat.le_refl _) ?_, rfl, q _ (I5.hok.fresh (Nat.le_refl _))⟩
  exact ⟨by rw [List.length_reverse]; exact hz, its.reverse, 0, r.rev, by rw [Heap.get?_push_size _ rfl]⟩
end
end L2
namespace L2
open PySem PySem.Spec PySem.Calls PyProof.Rows PySem.W
section
variable {X : Cx} {ι : Type} {CX : CXT} {k : Nat} {Cs fs : ι → Addr} {fds : ι → FuncData} {ps : List Str} {sps : ι → Sp} {E : XK} {m : Str} {apos pos p : Pos} {e o : Expr} {es : List Expr} {ta : TE} {t : TA}
inductive IsMethP (Cs : ι → Addr) (m : Str) (x : V) (H1 : Hp) (R : ι → Prop) : Prop
  | mk (i : ι) (a dx : Addr) (fl : List (Str × V)) (h1 : x = .ref a) (h2 : H1 a = some (.ins (Cs i) dx fl)) (h3 : fl.lookup m = none) (r : R i)
noncomputable def tMethP (Cs : ι → Addr) (m : Str) (sps : ι → Sp) (E : XK) (ta : TE) (t : TA) : TE := fun σ H Q => ta σ H fun x H1 => IsMethP Cs m x H1 fun i => t σ H1 fun vs H2 => sps i (x :: vs) H2 Q E
theorem pe_methP {pl : Sem Bool} (he : PE X o ta) (c : ∀ i, Cls X.K (Cs i)) (hm : ∀ i, Meth X.K (Cs i) m (fs i)) (F : ∀ i, FnOk X.prog X.w X.K X.mg X.base CX k (fs i) (fds i) ps (sps i)) (hr : Room k X.A) (hb : ∀ i, Binds X.K (fds i) ps []) (hx : Passes CX X E) (ha : PA X (e :: es) t)
    (hst : starEach (e :: es) X.env = (false, eval e X.env) :: starEach es X.env := by rfl) (hpl : (backTo pos (starEach es X.env)).any (·.1) = false := by rfl)
    (ht : eval (.Call (.Attribute o m apos) (e :: es) [] pos) X.env = (do
      let ov ← eval o X.env
      standAt apos.atName
      let (f, first) ← holding [ov] (getMethod ov m pl)
      callWith pos f first (backTo pos (starEach (e :: es) X.env)) (backToKw pos (keywordEach [] X.env))) := by rfl) :
    PE X (.Call (.Attribute o m apos) (e :: es) [] pos) (tMethP Cs m sps E ta t) := by
  intro pins s σ H Q I h
  refine PySem.W.methodCall_KW (pl := pl) (thn (he pins s σ H _ I h) fun u s1 ⟨x, H1, I1, rx, i, a, dx, fl, ex, ea, l, q⟩ => ?_) ht
  subst ex
  obtain rfl : u = Value.ref a := rx
  refine getmeth_ok I1 ea (c i) (hm i) l (PySem.W.callWith_K (first := [.ref a]) (h₀ := X.base) I.ok.mod.kin (hm i).kp (thn (ha pos pins s1 σ H1 _ I1 q) fun us s2 ⟨vs, H2, I2, r, q2⟩ => ⟨I2.kIn, ?_⟩) hst hpl)
  exact run_fn (us := .ref a :: us) (vs := .ref a :: vs) (dvs := []) (F i) hr (hb i) .nil hx I2 (.cons rfl r) (by rw [List.append_nil]; exact q2)
end
section
variable {X : Cx} {CX : CXT} {k : Nat} {f C : Addr} {fd : FuncData} {ps : List Str} {sp : Sp} {E : XK} {x m : Str} {apos pos p : Pos} {e : Expr} {es : List Expr} {t : TA} {mc : Value}
theorem pe_clsM {pl : Sem Bool} (hg : Gl X x) (hm : X.mg x = some (.ref C)) (hs : specialIn X.K (.ref C) "__getattribute__" = some (some (.builtin "type.__getattribute__"))) (hrd : readsIn X.K C mc = true) (hf : findCls X.K (.ref C) mc m = some (.val (.ref f))) (hh : handedIn (.ref f) = true)
    (kp : PySem.W.keepIn X.K (.ref f) = true) (F : FnOk X.prog X.w X.K X.mg X.base CX k f fd ps sp) (hr : Room k X.A) (hb : Binds X.K fd ps []) (hx : Passes CX X E) (ha : PA X (e :: es) t)
    (hdb : (x == ("__debug__" : Str)) = false := by decide) (hst : starEach (e :: es) X.env = (false, eval e X.env) :: starEach es X.env := by rfl) (hpl : (backTo pos (starEach es X.env)).any (·.1) = false := by rfl)
    (ht : eval (.Call (.Attribute (.Name x p) m apos) (e :: es) [] pos) X.env = (do
      let ov ← eval (.Name x p) X.env
      standAt apos.atName
      let (f, first) ← holding [ov] (getMethod ov m pl)
      callWith pos f first (backTo pos (starEach (e :: es) X.env)) (backToKw pos (keywordEach [] X.env))) := by rfl) :
    PE X (.Call (.Attribute (.Name x p) m apos) (e :: es) [] pos) (tCall sp [] E t) := by
  intro pins s σ H Q I h
  refine PySem.W.methodCall_KW (pl := pl) (ld_glob I hg hm ?_ hdb) ht
  refine method_cls I.kIn hs (cls_value I.kIn hrd hf hh ?_)
  have I1 := I.tok (s.toks + 1)
  refine PySem.W.callWith_K (first := []) (h₀ := X.base) I.ok.mod.kin kp (thn (ha pos pins _ σ H _ I1 h) fun us s2 ⟨vs, H2, I2, r, q2⟩ => ⟨I2.kIn, ?_⟩) hst hpl
  exact run_fn (us := us) (vs := vs) (dvs := []) F hr hb .nil hx I2 r q2
end
section
variable {X : Cx}
noncomputable def rNum : V → Hp → VK → Prop := fun x H Q => ∃ i : Int, x = .int i ∧ i.natAbs.log2 < 1920 ∧ Q (.str (Str.ofString (toString i))) H
theorem pe_fmtI {e : Expr} {te : TE} {pos : Pos} (he : PE X e te) : PE X (.FormattedValue e (-1) none pos) (tUn rNum te) := by
  intro pins s σ H Q I h
  refine FormattedValue_plain (thn (he pins s σ H _ I h) fun v s1 ⟨x, H1, I1, r1, i, e1, hi, q⟩ => ?_)
  subst e1
  obtain ⟨t, rfl⟩ := r1
  exact wpAny_formatField_int hi ⟨.str _, H1, I1.tok _, ⟨_, rfl⟩, q⟩
theorem pe_join2 {a b : Expr} {ta tb : TE} {pos : Pos} (ha : PE X a ta) (hb : PE X b tb) : PE X (.JoinedStr [a, b] pos) (tJoin [ta, tb] Str.empty) :=
  fun pins s σ H Q I h => JoinedStr_many ((pj_cons ha (pj_cons hb pj_nil)) Str.empty pins s σ H Q I h)
end
end L2
namespace RW
noncomputable def mixed (c k : Int) : Int := (((c + 7919 * k) * 48271 % 2147483647) * ((c + 7919 * k) * 48271 % 2147483647 + 2 * k + 1)) % 2147483629
noncomputable def cellAt (ns : List Int) (k : Nat) : Int := match ns[k]? with | some c => mixed c k | none => 0
end RW
namespace KM
variable {α : Type} [DecidableEq α]
end KM
namespace Ky
open PySem L2 PySem.Spec PyProof.Rows PySem.W
noncomputable abbrev letters : Str := "abcdefghijklmnopqrstuvwxyz"
noncomputable abbrev figures : Str := "0123456789"
theorem letters_eq : letters.cps.toList = List.range' 97 26 := by decide +kernel
theorem figures_eq : figures.cps.toList = List.range' 48 10 := by decide +kernel
noncomputable def isLetter (c : Nat) : Bool := decide (97 ≤ c ∧ c < 123)
noncomputable def isFig (c : Nat) : Bool := decide (48 ≤ c ∧ c < 58)
noncomputable def isSign (c : Nat) : Bool := isLetter c || isFig c
theorem mem_letters (c : Nat) : decide (c ∈ letters.cps.toList) = isLetter c := by
  rw [letters_eq]
  unfold isLetter
  rw [decide_eq_decide, List.mem_range'_1]
theorem mem_figures (c : Nat) : decide (c ∈ figures.cps.toList) = isFig c := by
  rw [figures_eq]
  unfold isFig
  rw [decide_eq_decide, List.mem_range'_1]
theorem cat_toList (x y : Str) : (x ++ y).cps.toList = x.cps.toList ++ y.cps.toList := by
  show (x.cps ++ y.cps).toList = _
  simp
theorem len_cat (x y : Str) : (x ++ y).length = x.length + y.length := by
  have ln : ∀ z : Str, z.cps.toList.length = z.length := fun z => by simp [Str.length]
  rw [← ln, cat_toList, List.length_append, ln, ln]
theorem mem_signs (c : Nat) : decide (c ∈ (letters ++ figures).cps.toList) = isSign c := by
  unfold isSign
  rw [← mem_letters, ← mem_figures, cat_toList, ← Bool.decide_or, decide_eq_decide, List.mem_append]
noncomputable def isNameL (cs : List Nat) : Bool := decide (1 ≤ cs.length ∧ cs.length ≤ 8) && (match cs with | [] => false | c :: _ => isLetter c) && cs.all isSign
noncomputable def isNameS (z : Str) : Bool := isNameL z.cps.toList
theorem name_len {z : Str} (h : isNameS z = true) : z.length ≤ 8 := by
  unfold isNameS isNameL at h
  rw [Bool.and_eq_true, Bool.and_eq_true] at h
  have := of_decide_eq_true h.1.1
  have hl : z.cps.toList.length = z.length := by simp [Str.length]
  omega
inductive Why | noName | noDeed | twice | tooMany
  deriving DecidableEq
noncomputable def scan : List Str → List Str → Option Why
  | _, [] => none
  | seen, n :: r => if isNameS n = true then (if n ∈ seen then some .twice else scan (seen ++ [n]) r) else some .noName
noncomputable def refused (ss : List Str) : Option Why := if 12 < ss.length then some .tooMany else scan [] ss
noncomputable def deedsErr (ss fs : List Str) : Option Why := match refused ss with
  | some k => some k
  | none => if fs.all (fun f => isNameS f && decide (f ∈ ss)) = true then none else some .noDeed
noncomputable def wts : List Str → Int → List (Key × V) → List (Key × V)
  | [], _, k => k
  | s :: r, w, k => wts r (w * 2) (putK k (Sum.inr s) (.int w))
noncomputable def mks : List Str → List (Key × V) → List (Key × V)
  | [], k => k
  | s :: r, k => mks r (putK k (Sum.inr s) (.bl true))
inductive spMixed (vs : List V) (H : Hp) (Q : VK) (x3_ : XK) : Prop
  | mk (c k : Int) (h0_ : vs = [.int c, .int k]) (h1_ : Q (.int (RW.mixed c k)) H)
inductive spCell (K : PySem.W.Frag) (vs : List V) (H : Hp) (Q : VK) (x3_ : XK) : Prop
  | mk (a : Addr) (ns : List Int) (k : Nat) (h0_ : vs = [.ref a, .int k]) (h1_ : SqL K H a (ns.map V.int)) (h2_ : Q (.int (RW.cellAt ns k)) H)
inductive spName (K : PySem.W.Frag) (vs : List V) (H : Hp) (Q : VK) (x3_ : XK) : Prop
  | mk (x : _) (h0_ : vs = [x]) (h1_ : ((∃ z, x = .str z ∧ z.length ≤ sizeLine ∧ ∀ H', Same H H' → Q (.bl (isNameS z)) H') ∨ ∃ t, TyOf K H x t ∧ PySem.W.kitOne K t (.type "str") = some false ∧ Q (.bl false) H))
noncomputable def ways (cl : Why → Addr) (r : Option Why) (q : Prop) (E : XK) (H : Hp) : Prop := match r with
  | none => q
  | some k => E (.ref (cl k)) none H
noncomputable def Short (ss : List Str) : Prop := ∀ z ∈ ss, z.length ≤ 1000
inductive spRefuse (K : PySem.W.Frag) (cl : Why → Addr) (vs : List V) (H : Hp) (Q : VK) (E : XK) : Prop
  | mk (a : Addr) (ss : List Str) (h0_ : vs = [.ref a]) (h1_ : SqL K H a (ss.map V.str)) (h2_ : Short ss) (h3_ : ∀ H', Same H H' → ways cl (refused ss) (Q .non H') E H')
inductive spWeights (K : PySem.W.Frag) (vs : List V) (H : Hp) (Q : VK) (x3_ : XK) : Prop
  | mk (a : Addr) (ss : List Str) (h0_ : vs = [.ref a]) (h1_ : SqL K H a (ss.map V.str)) (h2_ : ss.length < 64) (h3_ : ∀ (d : Addr) (ss' : List Str) H', Same H H' → H d = none → ss'.Perm ss → sortedS ss' = true → H' d = some (.dK (wts ss' 1 [])) → Q (.ref d) H')
inductive spMarks (K : PySem.W.Frag) (vs : List V) (H : Hp) (Q : VK) (x3_ : XK) : Prop
  | mk (a : Addr) (ss : List Str) (h0_ : vs = [.ref a]) (h1_ : SqL K H a (ss.map V.str)) (h2_ : ss.length ≤ 1000) (h3_ : ∀ (d : Addr) H', Same H H' → H d = none → H' d = some (.dK (mks ss [])) → Q (.ref d) H')
noncomputable abbrev mths : List Str := ["has", "require", "names", "free", "is_free", "bits", "names_of"]
inductive WAt (C : Addr) (H : Hp) (p : Addr) (kvs : List (Key × V)) : Prop
  | mk (dx : _) (fs : _) (dw : _) (o : _) (h0_ : H p = some (.ins C dx fs)) (h1_ : (∀ m ∈ mths, fs.lookup m = none)) (h2_ : fs.lookup ("weights" : Str) = some (.ref dw)) (h3_ : H dw = some (.frz o (.dK kvs)))
noncomputable def Thing (x : V) : Prop := (∃ z : Str, x = .str z ∧ z.length ≤ 1000) ∨ x = .non ∨ x = .int 5
noncomputable def goodV (kvs : List (Key × V)) : V → Bool
  | .str z => isNameS z && (valV kvs (Sum.inr z)).isSome
  | _ => false
inductive spHas (K : PySem.W.Frag) (C : Addr) (vs : List V) (H : Hp) (Q : VK) (x3_ : XK) : Prop
  | mk (p : Addr) (x : V) (kvs : List (Key × V)) (h0_ : vs = [.ref p, x]) (h1_ : Thing x) (h2_ : WAt C H p kvs) (h3_ : ∀ H', Same H H' → Q (.bl (goodV kvs x)) H')
inductive spRequire (K : PySem.W.Frag) (C : Addr) (cl : Why → Addr) (vs : List V) (H : Hp) (Q : VK) (E : XK) : Prop
  | mk (p b : Addr) (xs : List V) (kvs : List (Key × V)) (h0_ : vs = [.ref p, .ref b]) (h1_ : SqL K H b xs) (h2_ : (∀ x ∈ xs, Thing x)) (h3_ : WAt C H p kvs) (h4_ : ∀ H', Same H H' → ways cl (if xs.all (goodV kvs) = true then none else some .noDeed) (Q .non H') E H')
noncomputable def SameBut (x : Addr) (H H' : Hp) : Prop := ∀ b o, b ≠ x → H b = some o → H' b = some o
inductive spInit (K : PySem.W.Frag) (C : Addr) (cl : Why → Addr) (vs : List V) (H : Hp) (Q : VK) (E : XK) : Prop
  | mk (x a : Addr) (y : V) (dx : Addr) (ss fs : List Str) (h0_ : vs = [.ref x, .ref a, y]) (h1_ : H x = some (.ins C dx [])) (h2_ : SqL K H a (ss.map V.str)) (h3_ : ((y = .non ∧ fs = []) ∨ ∃ b, y = .ref b ∧ SqL K H b (fs.map V.str))) (h4_ : Short ss) (h5_ : Short fs) (h6_ : fs.length ≤ 1000) (h7_ : ∀ H', SameBut x H H' → ways cl (deedsErr ss fs) (∀ (dw df : Addr) (o : Obj) (ss' : List Str), H' x = some (.ins C dx [("weights", .ref dw), ("free_marks", .ref df)]) → H' dw = some (.frz o (.dK (wts ss' 1 []))) → H' df = some (.dK (mks fs [])) → ss'.Perm ss → sortedS ss' = true → Q .non H') E H')
section
variable {P : Program} {w : World} {K : PySem.W.Frag} {mg : Str → Option Value} {base : Heap}
theorem okE {x qual : Str} {st : Stmt} {f : Addr} {fd : FuncData} {N ps : List Str} {k : Nat} {sp : Sp} (F : Fun K x qual st f fd) (S : FnScope N ps (defScope st)) (len : ∀ vs H Q E, sp vs H Q E → vs.length = ps.length)
    (hbody : ∀ (cdv : Value) (A : Around) (outer : List Env) (s : Shared) (H : Hp) (vs : List V) (Q : VK) (E : XK), Room k (A.deeper (envOfC qual (defScope st) s.heap.objs.size f cdv)) → sp vs H Q E →
      (cxOf (CXE P w) P w K mg base N qual (defScope st) f cdv A outer s H E).Body E →
      ∃ t, PSs (cxOf (CXE P w) P w K mg base N qual (defScope st) f cdv A outer s H E) (defBody st) t ∧ t { nx := fun _ H' => Q .non H', rt := Q } (start N vs) H) : FnOk P w K mg base (CXE P w) (k + 1) f fd ps sp := by
  obtain ⟨oc, od, kV, doc, pm, an, cdv, ct, osl, rfl, lk, hcd⟩ := F.ex
  exact fn_of lk hcd S len fun A outer s H vs Q E hr hsp => hbody cdv A outer s H vs Q E hr hsp body_of
structure FunD (K : PySem.W.Frag) (x qual : Str) (st : Stmt) (f : Addr) (fd : FuncData) : Prop where
  ex : ∃ (oc : Value) (od : Option Addr) (dV kV doc pm : Value) (an : Option Addr) (cdv ct : Value) (osl : Array (Option Value)),
    fd = PySem.W.fnOf x qual (defArgs st) (defBody st) (defScope st) dV kV doc pm an cdv ct ∧ K.lookup f = some ⟨oc, od, .func fd, osl⟩ ∧ PySem.W.codeIn K cdv qual = true
  kp : PySem.W.keepIn K (.ref f) = true
theorem okED {x qual : Str} {st : Stmt} {f : Addr} {fd : FuncData} {N ps : List Str} {k : Nat} {sp : Sp} (F : FunD K x qual st f fd) (S : FnScope N ps (defScope st)) (len : ∀ vs H Q E, sp vs H Q E → vs.length = ps.length)
    (hbody : ∀ (cdv : Value) (A : Around) (outer : List Env) (s : Shared) (H : Hp) (vs : List V) (Q : VK) (E : XK), Room k (A.deeper (envOfC qual (defScope st) s.heap.objs.size f cdv)) → sp vs H Q E →
      (cxOf (CXE P w) P w K mg base N qual (defScope st) f cdv A outer s H E).Body E →
      ∃ t, PSs (cxOf (CXE P w) P w K mg base N qual (defScope st) f cdv A outer s H E) (defBody st) t ∧ t { nx := fun _ H' => Q .non H', rt := Q } (start N vs) H) : FnOk P w K mg base (CXE P w) (k + 1) f fd ps sp := by
  obtain ⟨oc, od, dV, kV, doc, pm, an, cdv, ct, osl, rfl, lk, hcd⟩ := F.ex
  exact fn_of lk hcd S len fun A outer s H vs Q E hr hsp => hbody cdv A outer s H vs Q E hr hsp body_of
end
end Ky
namespace Ky
open PySem L2 PySem.Spec PyProof.Rows PySem.W
noncomputable abbrev Dr := Str × Str × Str
structure DoorsAt (H : Hp) (d : Addr) (ds : List Dr) : Prop where
  ex : ∃ ts : List Addr, H d = some (.lst (ts.map V.ref)) ∧ ts.length = ds.length ∧ ∀ (i : Nat) (t : Addr) (x : Dr), ts[i]? = some t → ds[i]? = some x → H t = some (.tup [.str x.1, .str x.2.1, .str x.2.2])
theorem DoorsAt.same {H H' : Hp} {d : Addr} {ds : List Dr} (D : DoorsAt H d ds) (sm : Same H H') : DoorsAt H' d ds := by
  obtain ⟨ts, h1, h2, h3⟩ := D.ex
  exact ⟨ts, sm _ _ h1, h2, fun i t x a b => sm _ _ (h3 i t x a b)⟩
theorem smu {H : Hp} {p : Addr} {o : HO} (h : H p = none) : Same H (upd H p o) := fun b u e => by
  rw [upd_ne (ne_of_none e h)]
  exact e
theorem small2 {n : Nat} (h : n ≤ 16000000) : n ≤ sizeLine := Nat.le_trans h (by decide)
noncomputable def doorRooms (ds : List Dr) : List Str := ds.flatMap fun x => [x.1, x.2.2]
noncomputable def roomsOf (b : Str) (es : List Str) (ds : List Dr) : List Str := b :: es ++ doorRooms ds
theorem doorRooms_take {ds : List Dr} {i : Nat} {x : Dr} (h : ds[i]? = some x) : doorRooms (ds.take (i + 1)) = doorRooms (ds.take i) ++ [x.1] ++ [x.2.2] := by
  unfold doorRooms
  rw [List.take_succ, h]
  simp
theorem doorRooms_len (ds : List Dr) : (doorRooms ds).length = 2 * ds.length := by
  induction ds with
  | nil => rfl
  | cons x r ih => 
    have e : doorRooms (x :: r) = [x.1, x.2.2] ++ doorRooms r := rfl
    have h2 : ([x.1, x.2.2] : List Str).length = 2 := rfl
    rw [e, List.length_append, ih, h2, List.length_cons]
    omega
inductive spNamed (vs : List V) (H : Hp) (Q : VK) (E : XK) : Prop
  | mk (b : Str) (e d : Addr) (es : List Str) (ds : List Dr) (h0_ : vs = [.str b, .ref e, .ref d]) (h1_ : H e = some (.lst (es.map V.str))) (h2_ : DoorsAt H d ds) (h3_ : es.length ≤ 1000) (h4_ : ds.length ≤ 1000)
    (h5_ : ∀ (p : Addr) H', Same H H' → H p = none → H' p = some (.lst ((roomsOf b es ds).map V.str)) → Q (.ref p) H')
noncomputable def badRooms (ss : List Str) : Option Why := if ss.all isNameS = true then none else some .noName
inductive spRefRooms (K : PySem.W.Frag) (cl : Why → Addr) (vs : List V) (H : Hp) (Q : VK) (E : XK) : Prop
  | mk (a : Addr) (ss : List Str) (h0_ : vs = [.ref a]) (h1_ : SqL K H a (ss.map V.str)) (h2_ : Short ss) (h3_ : ∀ H', Same H H' → ways cl (badRooms ss) (Q .non H') E H')
theorem badRooms_drop {ss : List Str} {i : Nat} (h : (ss.take i).all isNameS = true) : badRooms ss = badRooms (ss.drop i) := by
  unfold badRooms
  have e : ss.all isNameS = (ss.drop i).all isNameS := by
    conv => lhs; rw [← List.take_append_drop i ss]
    rw [List.all_append, h, Bool.true_and]
  rw [e]
noncomputable def inn (ds : List Dr) (z : Str) : List (Key × V) := ds.filterMap fun x => if x.1 = z then some (Sum.inr x.2.1, V.str x.2.2) else none
theorem inn_len (ds : List Dr) (z : Str) : (inn ds z).length ≤ ds.length := List.length_filterMap_le ..
theorem inn_take {ds : List Dr} {i : Nat} {x : Dr} (h : ds[i]? = some x) (z : Str) : inn (ds.take (i + 1)) z = inn (ds.take i) z ++ (if x.1 = z then [(Sum.inr x.2.1, V.str x.2.2)] else []) := by
  unfold inn
  rw [List.take_succ, h, List.filterMap_append]
  by_cases e : x.1 = z
  · simp [e]
  · simp [e]
theorem valV_none {kvs : List (Key × V)} {k : Key} (h : ∀ p ∈ kvs, p.1 ≠ k) : valV kvs k = none := by
  unfold valV
  rw [List.find?_eq_none.mpr (fun p hp => by simpa using h p hp)]
  rfl
theorem inn_none {ds : List Dr} {z y : Str} (h : ∀ x ∈ ds, x.1 = z → x.2.1 ≠ y) : valV (inn ds z) (Sum.inr y) = none := by
  refine valV_none fun p hp => ?_
  obtain ⟨x, hx, e⟩ := List.mem_filterMap.mp hp
  by_cases ez : x.1 = z
  · rw [if_pos ez] at e
    cases e
    exact fun q => h x hx ez (Sum.inr.inj q)
  · rw [if_neg ez] at e
    cases e
noncomputable def Apart (ds : List Dr) : Prop := (ds.map fun x => (x.1, x.2.1)).Nodup
theorem Apart.at {ds : List Dr} (h : Apart ds) {i : Nat} {x : Dr} (hx : ds[i]? = some x) : ∀ y ∈ ds.take i, y.1 = x.1 → y.2.1 ≠ x.2.1 := by
  intro y hy e1 e2
  obtain ⟨j, hj, ej⟩ := List.mem_iff_getElem.mp hy
  rw [List.length_take] at hj
  have hi : i < ds.length := (List.getElem?_eq_some_iff.mp hx).1
  have hji : j < i := by omega
  have ey : ds[j]? = some y := by
    rw [List.getElem_take] at ej
    rw [List.getElem?_eq_getElem (by omega), ej]
  have := (List.getElem?_inj (i := j) (j := i) (by rw [List.length_map]; omega) h).mp (by rw [List.getElem?_map, List.getElem?_map, ey, hx]; show some (y.1, y.2.1) = some (x.1, x.2.1); rw [e1, e2])
  omega
theorem any_keys (kvs : List (Key × V)) (k : Key) : (kvs.any fun kv => decide (kv.1 = k)) = (kvs.map (·.1)).any fun j => decide (j = k) := by
  rw [List.any_map]
  rfl
theorem putK_keys {kvs kvs' : List (Key × V)} (k : Key) (v v' : V) (h : kvs.map (·.1) = kvs'.map (·.1)) : (putK kvs k v).map (·.1) = (putK kvs' k v').map (·.1) := by
  have m : ∀ (l : List (Key × V)) (u : V), (l.map fun kv => if kv.1 = k then (kv.1, u) else kv).map (·.1) = l.map (·.1) := fun l u => by
    rw [List.map_map]
    refine List.map_congr_left fun p _ => ?_
    show (if p.1 = k then (p.1, u) else p).1 = p.1
    split <;> rfl
  unfold putK
  rw [any_keys, any_keys, h]
  by_cases q : ((kvs'.map (·.1)).any fun j => decide (j = k)) = true
  · rw [if_pos q, if_pos q, m, m, h]
  · rw [if_neg q, if_neg q, List.map_append, List.map_append, h]
    rfl
theorem mks_snoc : ∀ (a : List Str) (z : Str) (k : List (Key × V)), mks (a ++ [z]) k = putK (mks a k) (Sum.inr z) (.bl true)
  | [], z, k => rfl
  | s :: r, z, k => mks_snoc r z _
structure LeadsAt (H : Hp) (l : Addr) (rs : List Str) (ds : List Dr) (kvs : List (Key × V)) (g : Str → Addr) : Prop where
  dk : H l = some (.dK kvs)
  keys : kvs.map (·.1) = (mks rs []).map (·.1)
  val : ∀ z ∈ rs, valV kvs (Sum.inr z) = some (.ref (g z))
  dd : ∀ z ∈ rs, H (g z) = some (.dK (inn ds z))
  inj : ∀ z ∈ rs, ∀ y ∈ rs, g z = g y → z = y
  ne : ∀ z ∈ rs, g z ≠ l
theorem LeadsAt.same {H H' : Hp} {l : Addr} {rs : List Str} {ds : List Dr} {kvs : List (Key × V)} {g : Str → Addr} (L : LeadsAt H l rs ds kvs g) (sm : Same H H') : LeadsAt H' l rs ds kvs g :=
  ⟨sm _ _ L.dk, L.keys, L.val, fun z hz => sm _ _ (L.dd z hz), L.inj, L.ne⟩
theorem LeadsAt.more {H : Hp} {l d : Addr} {rs : List Str} {kvs : List (Key × V)} {g : Str → Addr} (L : LeadsAt H l rs [] kvs g) (hd : H d = none) (z : Str) :
    LeadsAt (upd (upd H d (.dK [])) l (.dK (putK kvs (Sum.inr z) (.ref d)))) l (rs ++ [z]) [] (putK kvs (Sum.inr z) (.ref d)) (fun y => if y = z then d else g y) := by
  have dl : d ≠ l := fun e => by rw [e, L.dk] at hd; cases hd
  have gd : ∀ y ∈ rs, g y ≠ d := fun y hy e => by have := L.dd y hy; rw [e, hd] at this; cases this
  have mem : ∀ y ∈ rs ++ [z], y ≠ z → y ∈ rs := fun y hy n => (List.mem_append.mp hy).resolve_right fun q => n (List.mem_singleton.mp q)
  refine ⟨upd_same, ?_, fun y hy => ?_, fun y hy => ?_, fun y hy x hx e => ?_, fun y hy => ?_⟩
  · rw [mks_snoc]; exact putK_keys _ _ _ L.keys
  · rw [valV_put]
    by_cases e : y = z
    · subst e
      rw [if_pos rfl, if_pos rfl]
    · rw [if_neg (fun q => e (Sum.inr.inj q)), if_neg e]
      exact L.val y (mem y hy e)
  · by_cases e : y = z
    · subst e
      rw [if_pos rfl, upd_ne dl, upd_same]
      rfl
    · rw [if_neg e, upd_ne (L.ne y (mem y hy e)), upd_ne (gd y (mem y hy e))]
      exact L.dd y (mem y hy e)
  · by_cases e1 : y = z
    · by_cases e2 : x = z
      · rw [e1, e2]
      · rw [if_pos e1, if_neg e2] at e
        exact absurd e.symm (gd x (mem x hx e2))
    · by_cases e2 : x = z
      · rw [if_neg e1, if_pos e2] at e
        exact absurd e (gd y (mem y hy e1))
      · rw [if_neg e1, if_neg e2] at e
        exact L.inj y (mem y hy e1) x (mem x hx e2) e
  · by_cases e : y = z
    · rw [if_pos e]; exact dl
    · rw [if_neg e]; exact L.ne y (mem y hy e)
theorem LeadsAt.door {H : Hp} {l : Addr} {rs : List Str} {ds : List Dr} {kvs : List (Key × V)} {g : Str → Addr} {i : Nat} {x : Dr} (L : LeadsAt H l rs (ds.take i) kvs g) (hx : ds[i]? = some x) (hr : x.1 ∈ rs) (ha : Apart ds) :
    LeadsAt (upd H (g x.1) (.dK (putK (inn (ds.take i) x.1) (Sum.inr x.2.1) (.str x.2.2)))) l rs (ds.take (i + 1)) kvs g := by
  refine ⟨?_, L.keys, L.val, fun z hz => ?_, L.inj, L.ne⟩
  · rw [upd_ne (Ne.symm (L.ne _ hr))]; exact L.dk
  · by_cases e : z = x.1
    · subst e
      rw [upd_same, inn_take hx, if_pos rfl, putK_new _ (inn_none (ha.at hx))]
    · rw [upd_ne (fun q => e (L.inj z hz _ hr q)), inn_take hx, if_neg (fun q => e q.symm), List.append_nil]
      exact L.dd z hz
inductive spLeads (K : PySem.W.Frag) (vs : List V) (H : Hp) (Q : VK) (E : XK) : Prop
  | mk (a d : Addr) (rs : List Str) (ds : List Dr) (h0_ : vs = [.ref a, .ref d]) (h1_ : SqL K H a (rs.map V.str)) (h2_ : DoorsAt H d ds) (h3_ : rs.length ≤ 1000) (h4_ : ds.length ≤ 1000) (h5_ : ∀ x ∈ ds, x.1 ∈ rs) (h6_ : Apart ds)
    (h7_ : ∀ (l : Addr) (kvs : List (Key × V)) (g : Str → Addr) H', Same H H' → H l = none → (∀ z ∈ rs, H (g z) = none) → LeadsAt H' l rs ds kvs g → Q (.ref l) H')
theorem ps_dead {X : Cx} {st : Stmt} : PS X st (fun _ _ _ => False) := fun _ _ _ _ _ _ h => h.elim
noncomputable def knownOf (ds : List Dr) (ms : List Str) : List Str := ds.map (·.2.1) ++ ms
noncomputable abbrev mMths : List Str := ["deeds", "begin", "rooms", "ends", "knows", "require_room", "at", "to", "is_end", "goes", "behind"]
noncomputable abbrev mFlds (l dd e k : Addr) (b : Str) : List (Str × V) := [("leads", .ref l), ("deeds_made_of", .ref dd), ("first_room", .str b), ("end_marks", .ref e), ("known_marks", .ref k)]
theorem mFlds_mth (l dd e k : Addr) (b : Str) : ∀ m ∈ mMths, (mFlds l dd e k b).lookup m = none := by
  have h : ∀ m ∈ mMths, (m == ("leads" : Str)) = false ∧ (m == ("deeds_made_of" : Str)) = false ∧ (m == ("first_room" : Str)) = false ∧ (m == ("end_marks" : Str)) = false ∧ (m == ("known_marks" : Str)) = false := by decide +kernel
  intro m hm
  obtain ⟨h1, h2, h3, h4, h5⟩ := h m hm
  simp only [List.lookup, h1, h2, h3, h4, h5]
structure MAt (CM : Addr) (H : Hp) (x dx l dd e k : Addr) (b : Str) (es kn : List Str) (ds : List Dr) (kvs : List (Key × V)) (g : Str → Addr) : Prop where
  ins : H x = some (.ins CM dx (mFlds l dd e k b))
  lead : LeadsAt H l (roomsOf b es ds) ds kvs g
  ends : H e = some (.dK (mks es []))
  know : H k = some (.dK (mks kn []))
theorem MAt.same {CM : Addr} {H H' : Hp} {x dx l dd e k : Addr} {b : Str} {es kn : List Str} {ds : List Dr} {kvs : List (Key × V)} {g : Str → Addr} (M : MAt CM H x dx l dd e k b es kn ds kvs g) (sm : Same H H') : MAt CM H' x dx l dd e k b es kn ds kvs g :=
  ⟨sm _ _ M.ins, M.lead.same sm, sm _ _ M.ends, sm _ _ M.know⟩
structure MCls (K : PySem.W.Frag) (CM : Addr) : Prop where
  cl : Cls K CM
  nl : NoAttr K CM "leads"
  nd : NoAttr K CM "deeds_made_of"
  nf : NoAttr K CM "first_room"
  ne : NoAttr K CM "end_marks"
  nk : NoAttr K CM "known_marks"
inductive spMInit (K : PySem.W.Frag) (C CM : Addr) (vs : List V) (H : Hp) (Q : VK) (E : XK) : Prop
  | mk (x dd e d dx : Addr) (b : Str) (y : V) (es ms : List Str) (ds : List Dr) (wk : List (Key × V)) (h0_ : vs = [.ref x, .ref dd, .str b, .ref e, .ref d, y]) (h1_ : H x = some (.ins CM dx [])) (h2_ : WAt C H dd wk)
    (h3_ : H e = some (.lst (es.map V.str))) (h4_ : DoorsAt H d ds) (h5_ : (y = .non ∧ ms = []) ∨ ∃ m, y = .ref m ∧ H m = some (.lst (ms.map V.str)))
    (h6_ : es.length ≤ 200 ∧ ds.length ≤ 200 ∧ ms.length ≤ 200) (h7_ : (roomsOf b es ds).all isNameS = true) (h8_ : ((knownOf ds ms).map V.str).all (goodV wk) = true) (h9_ : Short (knownOf ds ms)) (h10_ : Apart ds) (h11_ : (mks (roomsOf b es ds) []).length ≤ 60)
    (h12_ : ∀ (l e' k : Addr) (kvs : List (Key × V)) (g : Str → Addr) H', SameBut x H H' → MAt CM H' x dx l dd e' k b es (knownOf ds ms) ds kvs g → Q .non H')
theorem short_of_names {ss : List Str} (h : ss.all isNameS = true) : Short ss := fun z hz => Nat.le_trans (name_len (List.all_eq_true.mp h z hz)) (by decide)
theorem door_mem {b : Str} {es : List Str} {ds : List Dr} : ∀ x ∈ ds, x.1 ∈ roomsOf b es ds := fun x hx => List.mem_append_right _ (List.mem_flatMap.mpr ⟨x, hx, by simp⟩)
theorem roomsOf_len (b : Str) (es : List Str) (ds : List Dr) : (roomsOf b es ds).length = 1 + es.length + 2 * ds.length := by
  unfold roomsOf
  rw [List.length_append, doorRooms_len, List.length_cons]
  omega
inductive MM (CM : Addr) (H : Hp) (x dd : Addr) (b : Str) (es kn : List Str) (ds : List Dr) : Prop
  | mk (dx l e k : Addr) (kvs : List (Key × V)) (g : Str → Addr) (m : MAt CM H x dx l dd e k b es kn ds kvs g)
theorem MM.same {CM : Addr} {H H' : Hp} {x dd : Addr} {b : Str} {es kn : List Str} {ds : List Dr} (M : MM CM H x dd b es kn ds) (sm : Same H H') : MM CM H' x dd b es kn ds := by
  obtain ⟨dx, l, e, k, kvs, g, m⟩ := M
  exact ⟨dx, l, e, k, kvs, g, m.same sm⟩
noncomputable def doorTo (ds : List Dr) (z y : Str) : Option Str := (ds.find? fun x => decide (x.1 = z) && decide (x.2.1 = y)).map (·.2.2)
theorem inn_pos {x : Dr} {r : List Dr} {z : Str} (e : x.1 = z) : inn (x :: r) z = (Sum.inr x.2.1, V.str x.2.2) :: inn r z := by simp [inn, e]
theorem inn_neg {x : Dr} {r : List Dr} {z : Str} (e : ¬ x.1 = z) : inn (x :: r) z = inn r z := by simp [inn, e]
theorem inn_val (ds : List Dr) (z y : Str) : valV (inn ds z) (Sum.inr y) = (doorTo ds z y).map V.str := by
  induction ds with
  | nil => rfl
  | cons x r ih =>
    unfold doorTo at ih ⊢
    rw [List.find?_cons]
    by_cases e : x.1 = z
    · rw [inn_pos e]
      by_cases e2 : x.2.1 = y
      · rw [valV_pos (by show Sum.inr x.2.1 = _; rw [e2]), decide_eq_true e, decide_eq_true e2]
        rfl
      · have : valV ((Sum.inr x.2.1, V.str x.2.2) :: inn r z) (Sum.inr y) = valV (inn r z) (Sum.inr y) := by
          unfold valV
          rw [List.find?_cons, decide_eq_false (fun q => e2 (Sum.inr.inj q))]
        rw [this, ih, decide_eq_true e, decide_eq_false e2]
        rfl
    · rw [inn_neg e, decide_eq_false e, Bool.false_and, ih]
inductive spMReq (CM : Addr) (vs : List V) (H : Hp) (Q : VK) (E : XK) : Prop
  | mk (x dd : Addr) (b z : Str) (es kn : List Str) (ds : List Dr) (h0_ : vs = [.ref x, .str z]) (h1_ : MM CM H x dd b es kn ds) (h2_ : z ∈ roomsOf b es ds) (h3_ : isNameS z = true) (h4_ : ∀ H', Same H H' → Q .non H')
noncomputable def oV (o : Option Str) : V := (o.map V.str).getD .non
noncomputable def goTo (ds : List Dr) (kn : List Str) (z y : Str) : Option Str := if y ∈ kn then doorTo ds z y else some z
inductive spMGoes (CM : Addr) (vs : List V) (H : Hp) (Q : VK) (E : XK) : Prop
  | mk (x dd : Addr) (b z y : Str) (es kn : List Str) (ds : List Dr) (h0_ : vs = [.ref x, .str z, .str y]) (h1_ : MM CM H x dd b es kn ds) (h2_ : z ∈ roomsOf b es ds) (h3_ : Q (oV (goTo ds kn z y)) H)
noncomputable def walk (ds : List Dr) (kn : List Str) (z : Str) : List Str → Option Str
  | [] => some z
  | y :: r => match goTo ds kn z y with
    | none => none
    | some z' => walk ds kn z' r
inductive spMBehind (K : PySem.W.Frag) (C CM : Addr) (cl : Why → Addr) (vs : List V) (H : Hp) (Q : VK) (E : XK) : Prop
  | mk (x dd a : Addr) (b : Str) (es kn rw : List Str) (ds : List Dr) (wk : List (Key × V)) (h0_ : vs = [.ref x, .ref a]) (h1_ : MM CM H x dd b es kn ds) (h2_ : WAt C H dd wk) (h3_ : SqL K H a (rw.map V.str)) (h4_ : Short rw) (h5_ : (roomsOf b es ds).all isNameS = true)
    (h6_ : ∀ H', Same H H' → ways cl (if (rw.map V.str).all (goodV wk) = true then none else some .noDeed) (Q (oV (walk ds kn b rw)) H') E H')
theorem doorTo_mem {ds : List Dr} {b : Str} {es : List Str} {z y u : Str} (h : doorTo ds z y = some u) : u ∈ roomsOf b es ds := by
  unfold doorTo at h
  obtain ⟨x, hx, rfl⟩ := Option.map_eq_some_iff.mp h
  exact List.mem_append_right _ (List.mem_flatMap.mpr ⟨x, List.mem_of_find?_eq_some hx, by simp⟩)
theorem goTo_mem {ds : List Dr} {kn : List Str} {b : Str} {es : List Str} {z y u : Str} (hz : z ∈ roomsOf b es ds) (h : goTo ds kn z y = some u) : u ∈ roomsOf b es ds := by
  unfold goTo at h
  by_cases q : y ∈ kn
  · rw [if_pos q] at h; exact doorTo_mem h
  · rw [if_neg q] at h; cases h; exact hz
end Ky
namespace Ky
open PySem L2 PySem.Spec PyProof.Rows PySem.W
open Classical in
inductive DrsL (H : Hp) : List V → List Dr → Prop
  | nil : DrsL H [] []
  | cons {t : Addr} {x : Dr} {vs : List V} {ds : List Dr} (h : H t = some (.tup [.str x.1, .str x.2.1, .str x.2.2])) (r : DrsL H vs ds) : DrsL H (.ref t :: vs) (x :: ds)
theorem DrsL.ex {H : Hp} {vs : List V} {ds : List Dr} (h : DrsL H vs ds) : ∃ ts : List Addr, vs = ts.map V.ref ∧ ts.length = ds.length ∧ ∀ (i : Nat) (t : Addr) (x : Dr), ts[i]? = some t → ds[i]? = some x → H t = some (.tup [.str x.1, .str x.2.1, .str x.2.2]) := by
  induction h with
  | nil => exact ⟨[], rfl, rfl, fun i t x a => by cases a⟩
  | @cons t x vs ds h r ih =>
    obtain ⟨ts, rfl, e2, e3⟩ := ih
    refine ⟨t :: ts, rfl, by rw [List.length_cons, List.length_cons, e2], fun i u y a c => ?_⟩
    cases i with
    | zero => cases a; cases c; exact h
    | succ i => exact e3 i u y (by simpa using a) (by simpa using c)
theorem DrsL.at {H : Hp} {d : Addr} {vs : List V} {ds : List Dr} (h : DrsL H vs ds) (hd : H d = some (.lst vs)) : DoorsAt H d ds := by
  obtain ⟨ts, rfl, e2, e3⟩ := h.ex
  exact ⟨ts, hd, e2, e3⟩
theorem DrsL.same {H H' : Hp} {vs : List V} {ds : List Dr} (h : DrsL H vs ds) (sm : Same H H') : DrsL H' vs ds := by
  induction h with
  | nil => exact .nil
  | cons h r ih => exact .cons (sm _ _ h) ih
theorem DrsL.len {H : Hp} {vs : List V} {ds : List Dr} (h : DrsL H vs ds) : vs.length = ds.length := by
  induction h with
  | nil => rfl
  | cons h r ih => rw [List.length_cons, List.length_cons, ih]
theorem DrsL.append {H : Hp} {vs us : List V} {ds fs : List Dr} (h : DrsL H vs ds) (h' : DrsL H us fs) : DrsL H (vs ++ us) (ds ++ fs) := by
  induction h with
  | nil => exact h'
  | cons h r ih => exact .cons h ih
theorem cutTo (xs : List V) (n : Nat) : cutV xs none (some (n : Int)) = xs.take n := by
  unfold cutV
  rw [HT.sIx_none, HT.sIx_nat, Nat.sub_zero, List.drop_zero]
  by_cases h : n ≤ xs.length
  · rw [Nat.min_eq_left h]
  · rw [Nat.min_eq_right (by omega), List.take_of_length_le (Nat.le_refl _), List.take_of_length_le (by omega)]
theorem cutFr (xs : List V) {n : Nat} (h : n ≤ xs.length) : cutV xs (some (n : Int)) none = xs.drop n := by
  unfold cutV
  rw [HT.sIx_none, HT.sIx_nat, Nat.min_eq_left h, List.take_of_length_le (by rw [List.length_drop]; exact Nat.le_refl _)]
theorem keys_put (k : List (Key × V)) (l : List Str) (s : Str) (v : V) (h : k.map (·.1) = l.map Sum.inr) : (putK k (Sum.inr s) v).map (·.1) = (if s ∈ l then l else l ++ [s]).map Sum.inr := by
  have m : (k.map fun kv => if kv.1 = Sum.inr s then (kv.1, v) else kv).map (·.1) = k.map (·.1) := by
    rw [List.map_map]
    refine List.map_congr_left fun p _ => ?_
    show (if p.1 = Sum.inr s then (p.1, v) else p).1 = p.1
    split <;> rfl
  unfold putK
  rw [any_keys, h]
  by_cases q : s ∈ l
  · rw [if_pos q, if_pos (List.any_eq_true.mpr ⟨Sum.inr s, List.mem_map.mpr ⟨s, q, rfl⟩, decide_eq_true rfl⟩), m, h]
  · rw [if_neg q, if_neg (fun u => by
      obtain ⟨j, hj, e⟩ := List.any_eq_true.mp u
      obtain ⟨y, hy, rfl⟩ := List.mem_map.mp hj
      exact q (Sum.inr.inj (of_decide_eq_true e) ▸ hy)), List.map_append, List.map_append, h]
    rfl
theorem mks_unl : ∀ (ss : List Str) (k : List (Key × V)) (l : List Str), k.map (·.1) = l.map Sum.inr → (mks ss k).map (·.1) = (unl ss l).map Sum.inr
  | [], k, l, h => h
  | s :: r, k, l, h => mks_unl r _ _ (keys_put k l s _ h)
theorem mks_len (ss : List Str) : (mks ss []).length = (unl ss []).length := by
  have := congrArg List.length (mks_unl ss [] [] rfl)
  rw [List.length_map, List.length_map] at this
  exact this
section
variable {wk : List (Key × V)} {r : Row}
end
theorem mem_rooms {b : Str} {es : List Str} {ds : List Dr} {z : Str} : z ∈ roomsOf b es ds ↔ z = b ∨ z ∈ es ∨ ∃ x ∈ ds, z = x.1 ∨ z = x.2.2 := by
  unfold roomsOf doorRooms
  rw [List.mem_append, List.mem_cons, List.mem_flatMap, or_assoc]
  refine or_congr_right (or_congr_right ?_)
  constructor
  · rintro ⟨x, hx, hz⟩
    rcases List.mem_cons.mp hz with rfl | hz
    · exact ⟨x, hx, .inl rfl⟩
    · exact ⟨x, hx, .inr (List.mem_singleton.mp hz)⟩
  · rintro ⟨x, hx, rfl | rfl⟩
    · exact ⟨x, hx, .head _⟩
    · exact ⟨x, hx, .tail _ (.head _)⟩
theorem mem_known {ds : List Dr} {ms : List Str} {z : Str} : z ∈ knownOf ds ms ↔ (∃ x ∈ ds, x.2.1 = z) ∨ z ∈ ms := by
  unfold knownOf
  rw [List.mem_append, List.mem_map]
theorem nodup_le : ∀ (l m : List Str), l.Nodup → (∀ z ∈ l, z ∈ m) → l.length ≤ m.length
  | [], m, _, _ => Nat.zero_le _
  | x :: r, m, hn, hs => by
    have hn := List.nodup_cons.mp hn
    have h1 := nodup_le r (m.erase x) hn.2 fun z hz => (List.mem_erase_of_ne fun (e : z = x) => hn.1 (e ▸ hz)).mpr (hs z (.tail _ hz))
    have h2 := List.length_erase_of_mem (hs x (.head _))
    have h3 := List.length_pos_of_mem (hs x (.head _))
    rw [List.length_cons]
    omega
theorem unl_in {rs : List Str} {z : Str} : z ∈ unl rs [] ↔ z ∈ rs := by
  rw [unl_mem]
  exact ⟨fun h => h.elim (fun h => nomatch h) id, .inr⟩
section
variable {wk : List (Key × V)} {r r2 : Row} {k : Option Why}
end
end Ky
namespace Ky
open PySem L2 PySem.Spec PyProof.Rows PySem.W
inductive RK
  | never (a : Str) | most (a : Str) (n : Nat) | ahead (a b : Str) | turns (a b : Str) | hold (a b : Str) | answer (a b : Str)
noncomputable def rmN (i : Nat) : Str := Str.empty ++ ("r" : Str) ++ Str.ofString (toString (0 + (i : Int)))
theorem rm8 : ((List.range 8).map rmN).Nodup ∧ (((List.range 8).map rmN).all fun z => isNameS z) = true ∧ rmN 0 = ("r0" : Str) ∧ rmN 1 = ("r1" : Str) := by decide +kernel
theorem rm_inj {i j : Nat} (hi : i < 8) (hj : j < 8) (e : rmN i = rmN j) : i = j := by
  have h1 : ((List.range 8).map rmN)[i]? = some (rmN i) := by rw [List.getElem?_map, List.getElem?_range hi]; rfl
  have h2 : ((List.range 8).map rmN)[j]? = some (rmN j) := by rw [List.getElem?_map, List.getElem?_range hj]; rfl
  exact (List.getElem?_inj (by rw [List.length_map, List.length_range]; exact hi) rm8.1).mp (by rw [h1, h2, e])
theorem rm_name {i : Nat} (hi : i < 8) : isNameS (rmN i) = true := List.all_eq_true.mp rm8.2.1 _ (List.mem_map.mpr ⟨i, List.mem_range.mpr hi, rfl⟩)
theorem rm01 : rmN 0 ≠ rmN 1 := fun e => absurd (rm_inj (by decide) (by decide) e) (by decide)
namespace RK
noncomputable def ends : RK → List Str
  | never _ => [rmN 0]
  | most _ n => (List.range (n + 1)).map rmN
  | answer _ _ => [rmN 0]
  | _ => [rmN 0, rmN 1]
noncomputable def doors : RK → List Dr
  | never _ => []
  | most a n => (List.range n).map fun i => (rmN i, a, rmN (i + 1))
  | ahead a b => [(rmN 0, a, rmN 1), (rmN 1, a, rmN 1), (rmN 1, b, rmN 1)]
  | turns a b => [(rmN 0, a, rmN 1), (rmN 1, b, rmN 0)]
  | hold a b => [(rmN 0, a, rmN 1), (rmN 0, b, rmN 0), (rmN 1, b, rmN 0)]
  | answer a b => [(rmN 0, a, rmN 1), (rmN 0, b, rmN 0), (rmN 1, a, rmN 1), (rmN 1, b, rmN 0)]
noncomputable def more : RK → List Str
  | never a => [a]
  | most a _ => [a]
  | _ => []
noncomputable def about : RK → List Str
  | never a => [a]
  | most a _ => [a]
  | ahead a b => [a, b] | turns a b => [a, b] | hold a b => [a, b] | answer a b => [a, b]
noncomputable def top : RK → Nat
  | never _ => 0
  | most _ n => n
  | _ => 1
noncomputable def word : RK → Str
  | never _ => "never" | most _ _ => "most" | ahead _ _ => "ahead" | turns _ _ => "turns" | hold _ _ => "hold" | answer _ _ => "answer"
noncomputable def one : RK → Str
  | never a => a | most a _ => a | ahead a _ => a | turns a _ => a | hold a _ => a | answer a _ => a
noncomputable def rest : RK → List V
  | never _ => [] | most _ n => [.int n] | ahead _ b => [.str b] | turns _ b => [.str b] | hold _ b => [.str b] | answer _ b => [.str b]
noncomputable def words (k : RK) : List V := .str k.word :: .str k.one :: k.rest
noncomputable def idx : RK → Nat
  | never _ => 0 | most _ _ => 1 | ahead _ _ => 2 | turns _ _ => 3 | hold _ _ => 4 | answer _ _ => 5
noncomputable def flds : RK → List (Str × V)
  | never a => [("deed", .str a)]
  | most a n => [("deed", .str a), ("many", .int n)]
  | ahead a b => [("one", .str a), ("other", .str b)] | turns a b => [("one", .str a), ("other", .str b)] | hold a b => [("one", .str a), ("other", .str b)] | answer a b => [("one", .str a), ("other", .str b)]
noncomputable def Ok (ss : List Str) : RK → Prop
  | never a => a ∈ ss
  | most a n => a ∈ ss ∧ n ≤ 6
  | ahead a b => a ∈ ss ∧ b ∈ ss ∧ a ≠ b | turns a b => a ∈ ss ∧ b ∈ ss ∧ a ≠ b | hold a b => a ∈ ss ∧ b ∈ ss ∧ a ≠ b | answer a b => a ∈ ss ∧ b ∈ ss ∧ a ≠ b
noncomputable def next : RK → Nat → Str → Option Nat
  | never a, s, y => if y = a then none else some s
  | most a n, s, y => if y = a then (if s < n then some (s + 1) else none) else some s
  | ahead a b, s, y => if y = a ∨ y = b then (if y = a ∨ s = 1 then some 1 else none) else some s
  | turns a b, s, y => if y = a ∨ y = b then (if (y = a ↔ s = 0) then some (1 - s) else none) else some s
  | hold a b, s, y => if y = a ∨ y = b then (if y = a ∧ s = 1 then none else some (if y = a then 1 else 0)) else some s
  | answer a b, s, y => if y = a ∨ y = b then some (if y = a then 1 else 0) else some s
noncomputable def due (k : RK) : Nat → List Str → Option Nat
  | s, [] => some s
  | s, y :: r => match k.next s y with
    | none => none
    | some s' => k.due s' r
noncomputable abbrev kn (k : RK) : List Str := knownOf k.doors k.more
end RK
theorem doorTo_nil (z y : Str) : doorTo [] z y = none := rfl
theorem doorTo_cons (x : Dr) (r : List Dr) (z y : Str) : doorTo (x :: r) z y = if x.1 = z ∧ x.2.1 = y then some x.2.2 else doorTo r z y := by
  unfold doorTo
  rw [List.find?_cons]
  by_cases h : x.1 = z ∧ x.2.1 = y
  · rw [if_pos h, decide_eq_true h.1, decide_eq_true h.2]
    rfl
  · rw [if_neg h]
    have : (decide (x.1 = z) && decide (x.2.1 = y)) = false := by
      rw [← Bool.not_eq_true, Bool.and_eq_true]
      exact fun q => h ⟨of_decide_eq_true q.1, of_decide_eq_true q.2⟩
    rw [this]
theorem step_two {a b y : Str} {s : Nat} (hab : a ≠ b) (hs : s ≤ 1) : goTo (RK.ahead a b).doors (RK.ahead a b).kn (rmN s) y = ((RK.ahead a b).next s y).map rmN ∧ goTo (RK.turns a b).doors (RK.turns a b).kn (rmN s) y = ((RK.turns a b).next s y).map rmN ∧
    goTo (RK.hold a b).doors (RK.hold a b).kn (rmN s) y = ((RK.hold a b).next s y).map rmN ∧ goTo (RK.answer a b).doors (RK.answer a b).kn (rmN s) y = ((RK.answer a b).next s y).map rmN := by
  have r01 := rm01
  have r10 := Ne.symm rm01
  have hba := Ne.symm hab
  by_cases h1 : y = a
  · subst h1
    rcases (show s = 0 ∨ s = 1 by omega) with rfl | rfl <;> simp [goTo, RK.kn, knownOf, RK.doors, RK.more, RK.next, doorTo_cons, doorTo_nil, r01, r10, hab, hba]
  · by_cases h2 : y = b
    · subst h2
      rcases (show s = 0 ∨ s = 1 by omega) with rfl | rfl <;> simp [goTo, RK.kn, knownOf, RK.doors, RK.more, RK.next, doorTo_cons, doorTo_nil, r01, r10, hab, hba]
    · have h1' : ¬ a = y := fun e => h1 e.symm
      have h2' : ¬ b = y := fun e => h2 e.symm
      simp [goTo, RK.kn, knownOf, RK.doors, RK.more, RK.next, h1, h2]
theorem doorTo_most (a y : Str) {n s : Nat} (hn : n ≤ 6) (hs : s ≤ n) : doorTo (RK.most a n).doors (rmN s) y = if a = y ∧ s < n then some (rmN (s + 1)) else none := by
  have gen : ∀ m, m ≤ n → doorTo ((List.range m).map fun i => (rmN i, a, rmN (i + 1))) (rmN s) y = if a = y ∧ s < m then some (rmN (s + 1)) else none := by
    intro m
    induction m with
    | zero => intro _; rw [if_neg (by omega)]; rfl
    | succ m ih =>
      intro hm
      have ih := ih (by omega)
      rw [List.range_succ, List.map_append]
      unfold doorTo at ih ⊢
      rw [List.find?_append]
      cases e : ((List.range m).map fun i => (rmN i, a, rmN (i + 1))).find? (fun x => decide (x.1 = rmN s) && decide (x.2.1 = y)) with
      | some x =>
        rw [e] at ih
        have q : a = y ∧ s < m := Decidable.byContradiction fun q => by rw [if_neg q] at ih; cases ih
        rw [if_pos q] at ih
        rw [if_pos ⟨q.1, by omega⟩]
        exact ih
      | none =>
        rw [e] at ih
        have q : ¬ (a = y ∧ s < m) := fun q => by rw [if_pos q] at ih; cases ih
        rw [Option.none_or, List.map_cons, List.map_nil]
        by_cases q2 : a = y ∧ s < m + 1
        · have : s = m := Decidable.byContradiction fun z => q ⟨q2.1, by omega⟩
          subst this
          rw [if_pos q2, List.find?_cons_of_pos (by simp [q2.1])]
          rfl
        · rw [if_neg q2, List.find?_cons_of_neg]
          · rfl
          · rw [Bool.and_eq_true]
            rintro ⟨z1, z2⟩
            have := rm_inj (by omega) (by omega) (of_decide_eq_true z1)
            exact q2 ⟨of_decide_eq_true z2, by omega⟩
  exact gen n (Nat.le_refl _)
theorem most_kn {a y : Str} {n : Nat} : y ∈ (RK.most a n).kn ↔ y = a := by
  unfold RK.kn
  rw [mem_known]
  constructor
  · rintro (⟨x, hx, e⟩ | h)
    · obtain ⟨i, _, rfl⟩ := List.mem_map.mp hx
      exact e.symm
    · exact List.mem_singleton.mp h
  · rintro rfl
    exact .inr (.head _)
theorem step (k : RK) {ss : List Str} (hk : k.Ok ss) {s : Nat} (hs : s ≤ k.top) (y : Str) : goTo k.doors k.kn (rmN s) y = (k.next s y).map rmN ∧ ∀ s', k.next s y = some s' → s' ≤ k.top := by
  cases k with
  | never a =>
    refine ⟨?_, fun s' h => ?_⟩
    · unfold goTo
      simp only [RK.next]
      by_cases h : y = a
      · rw [if_pos h, if_pos (by rw [h]; exact .head _)]; rfl
      · rw [if_neg h, if_neg (show ¬ y ∈ (RK.never a).kn from fun q => h (List.mem_singleton.mp q))]; rfl
    · simp only [RK.next] at h
      split at h <;> cases h
      exact hs
  | most a n =>
    refine ⟨?_, fun s' h => ?_⟩
    · unfold goTo
      rw [doorTo_most a y hk.2 hs]
      simp only [RK.next]
      by_cases h : y = a
      · subst h
        rw [if_pos (most_kn.mpr rfl), if_pos rfl]
        by_cases q : s < n
        · rw [if_pos ⟨rfl, q⟩, if_pos q]; rfl
        · rw [if_neg (fun z => q z.2), if_neg q]; rfl
      · rw [if_neg (fun z => h (most_kn.mp z)), if_neg h]; rfl
    · simp only [RK.next] at h
      show s' ≤ n
      have : s ≤ n := hs
      split at h
      · split at h <;> cases h
        omega
      · cases h; exact this
  | ahead a b =>
    refine ⟨(step_two hk.2.2 hs).1, fun s' h => ?_⟩
    simp only [RK.next] at h
    have : s ≤ 1 := hs
    show s' ≤ 1
    split at h <;> (try split at h) <;> cases h <;> omega
  | turns a b =>
    refine ⟨(step_two hk.2.2 hs).2.1, fun s' h => ?_⟩
    simp only [RK.next] at h
    have : s ≤ 1 := hs
    show s' ≤ 1
    split at h <;> (try split at h) <;> cases h <;> omega
  | hold a b =>
    refine ⟨(step_two hk.2.2 hs).2.2.1, fun s' h => ?_⟩
    simp only [RK.next] at h
    have : s ≤ 1 := hs
    show s' ≤ 1
    split at h
    · split at h
      · cases h
      · cases h; split <;> omega
    · cases h; exact this
  | answer a b =>
    refine ⟨(step_two hk.2.2 hs).2.2.2, fun s' h => ?_⟩
    simp only [RK.next] at h
    have : s ≤ 1 := hs
    show s' ≤ 1
    split at h
    · cases h; split <;> omega
    · cases h; exact this
theorem walk_due (k : RK) {ss : List Str} (hk : k.Ok ss) : ∀ (r : List Str) (s : Nat), s ≤ k.top → walk k.doors k.kn (rmN s) r = (k.due s r).map rmN ∧ ∀ s', k.due s r = some s' → s' ≤ k.top
  | [], s, hs => ⟨rfl, fun s' h => by cases h; exact hs⟩
  | y :: r, s, hs => by
    obtain ⟨h1, h2⟩ := step k hk hs y
    unfold walk RK.due
    rw [h1]
    cases e : k.next s y with
    | none => exact ⟨rfl, fun s' h => by cases h⟩
    | some s1 => exact walk_due k hk r s1 (h2 s1 e)
theorem rooms8 (k : RK) {ss : List Str} (hk : k.Ok ss) : ∀ z ∈ roomsOf (rmN 0) k.ends k.doors, ∃ i, i < 8 ∧ z = rmN i := by
  intro z hz
  have dd : ∀ x ∈ k.doors, (∃ i, i < 8 ∧ x.1 = rmN i) ∧ ∃ i, i < 8 ∧ x.2.2 = rmN i := by
    intro x hx
    cases k with
    | never a => cases hx
    | most a n =>
      obtain ⟨i, hi, rfl⟩ := List.mem_map.mp hx
      have := List.mem_range.mp hi
      have := hk.2
      exact ⟨⟨i, by omega, rfl⟩, ⟨i + 1, by omega, rfl⟩⟩
    | _ =>
      simp only [RK.doors, List.mem_cons, List.not_mem_nil, or_false] at hx
      rcases hx with rfl | hx
      all_goals first
        | exact ⟨⟨_, by decide, rfl⟩, ⟨_, by decide, rfl⟩⟩
        | (rcases hx with rfl | hx <;> first
          | exact ⟨⟨_, by decide, rfl⟩, ⟨_, by decide, rfl⟩⟩
          | (subst hx; exact ⟨⟨_, by decide, rfl⟩, ⟨_, by decide, rfl⟩⟩)
          | (rcases hx with rfl | hx <;> first
            | exact ⟨⟨_, by decide, rfl⟩, ⟨_, by decide, rfl⟩⟩
            | (subst hx; exact ⟨⟨_, by decide, rfl⟩, ⟨_, by decide, rfl⟩⟩)))
        | (subst hx; exact ⟨⟨_, by decide, rfl⟩, ⟨_, by decide, rfl⟩⟩)
  rcases mem_rooms.mp hz with rfl | h | ⟨x, hx, h | h⟩
  · exact ⟨0, by decide, rfl⟩
  · cases k with
    | most a n =>
      obtain ⟨i, hi, rfl⟩ := List.mem_map.mp h
      have := List.mem_range.mp hi
      have := hk.2
      exact ⟨i, by omega, rfl⟩
    | _ =>
      simp only [RK.ends, List.mem_cons, List.not_mem_nil, or_false] at h
      rcases h with rfl | rfl
      all_goals exact ⟨_, by decide, rfl⟩
  · obtain ⟨i, hi, e⟩ := (dd x hx).1
    exact ⟨i, hi, h.trans e⟩
  · obtain ⟨i, hi, e⟩ := (dd x hx).2
    exact ⟨i, hi, h.trans e⟩
structure RM (ss : List Str) (k : RK) : Prop where
  nm : (roomsOf (rmN 0) k.ends k.doors).all isNameS = true
  ap : Apart k.doors
  ro : (mks (roomsOf (rmN 0) k.ends k.doors) []).length ≤ 60
  le : k.ends.length ≤ 200 ∧ k.doors.length ≤ 200 ∧ k.more.length ≤ 200
  kn : ∀ z ∈ k.kn, z ∈ ss
  ab : ∀ z ∈ k.about, z ∈ ss
theorem apart_of (ds : List Dr) (h : (ds.map fun x => (x.1, x.2.1)).Nodup) : Apart ds := h
theorem rule_m (k : RK) {ss : List Str} (hk : k.Ok ss) : RM ss k := by
  have r8 := rooms8 k hk
  have r01 := rm01
  have r10 := Ne.symm rm01
  refine ⟨List.all_eq_true.mpr fun z hz => ?_, ?_, ?_, ?_, fun z hz => ?_, fun z hz => ?_⟩
  · obtain ⟨i, hi, rfl⟩ := r8 z hz
    exact rm_name hi
  · cases k with
    | never a => exact .nil
    | most a n =>
      unfold Apart
      show (((List.range n).map fun i => (rmN i, a, rmN (i + 1))).map fun x => (x.1, x.2.1)).Nodup
      rw [List.map_map]
      refine List.pairwise_map.mpr (List.Pairwise.imp_of_mem (fun {i j} hi hj hlt e => ?_) (List.pairwise_lt_range (n := n)))
      have h1 := List.mem_range.mp hi
      have h2 := List.mem_range.mp hj
      have := hk.2
      have := rm_inj (by omega) (by omega) (Prod.mk.inj e).1
      omega
    | ahead a b =>
      have hab := hk.2.2
      exact apart_of _ (by simp [RK.doors, r01, r10, hab])
    | turns a b => exact apart_of _ (by simp [RK.doors, r01, r10])
    | hold a b =>
      have hab := hk.2.2
      exact apart_of _ (by simp [RK.doors, r01, r10, hab])
    | answer a b =>
      have hab := hk.2.2
      exact apart_of _ (by simp [RK.doors, r01, r10, hab])
  · rw [mks_len]
    have := nodup_le _ ((List.range 8).map rmN) (unl_nodup (roomsOf (rmN 0) k.ends k.doors) [] .nil) fun z hz => by
      obtain ⟨i, hi, e⟩ := r8 z (unl_in.mp hz)
      exact List.mem_map.mpr ⟨i, List.mem_range.mpr hi, e.symm⟩
    rw [List.length_map, List.length_range] at this
    omega
  · cases k with
    | most a n =>
      have := hk.2
      refine ⟨?_, ?_, by show 1 ≤ 200; decide⟩
      · show ((List.range (n + 1)).map rmN).length ≤ 200
        rw [List.length_map, List.length_range]; omega
      · show ((List.range n).map fun i => (rmN i, a, rmN (i + 1))).length ≤ 200
        rw [List.length_map, List.length_range]; omega
    | _ => exact ⟨by simp [RK.ends], by simp [RK.doors], by simp [RK.more]⟩
  · cases k with
    | most a n => rw [most_kn.mp hz]; exact hk.1
    | never a => rw [List.mem_singleton.mp hz]; exact hk
    | _ =>
      simp only [RK.kn, knownOf, RK.doors, RK.more, List.map_cons, List.map_nil, List.append_nil, List.mem_cons, List.not_mem_nil, or_false] at hz
      obtain ⟨h1, h2, _⟩ := hk
      rcases hz with rfl | hz
      all_goals first
        | assumption
        | (rcases hz with rfl | hz <;> first
          | assumption
          | (subst hz; assumption)
          | (rcases hz with rfl | hz <;> first
            | assumption
            | (subst hz; assumption)))
        | (subst hz; assumption)
  · cases k with
    | most a n => rw [List.mem_singleton.mp hz]; exact hk.1
    | never a => rw [List.mem_singleton.mp hz]; exact hk
    | _ =>
      obtain ⟨h1, h2, _⟩ := hk
      simp only [RK.about, List.mem_cons, List.not_mem_nil, or_false] at hz
      rcases hz with rfl | rfl <;> assumption
theorem st_room (k : RK) {s : Nat} (hs : s ≤ k.top) : rmN s ∈ roomsOf (rmN 0) k.ends k.doors := by
  cases k with
  | never a =>
    obtain rfl : s = 0 := Nat.le_zero.mp hs
    exact mem_rooms.mpr (.inl rfl)
  | most a n =>
    have : s ≤ n := hs
    exact mem_rooms.mpr (.inr (.inl (List.mem_map.mpr ⟨s, List.mem_range.mpr (by omega), rfl⟩)))
  | _ =>
    rcases (show s = 0 ∨ s = 1 from (by have : s ≤ 1 := hs; omega)) with rfl | rfl
    · exact mem_rooms.mpr (.inl rfl)
    · refine mem_rooms.mpr (.inr (.inr ⟨_, .head _, .inr rfl⟩))
theorem st_end (k : RK) {ss : List Str} (hk : k.Ok ss) {s : Nat} (hs : s ≤ k.top) : rmN s ∈ k.ends ↔ (k.word ≠ "answer" ∨ s = 0) := by
  have w : ∀ {a : Str}, ("never" : Str) ≠ "answer" ∧ ("most" : Str) ≠ "answer" ∧ ("ahead" : Str) ≠ "answer" ∧ ("turns" : Str) ≠ "answer" ∧ ("hold" : Str) ≠ "answer" := fun {_} => by decide +kernel
  have w := w (a := "")
  cases k with
  | never a =>
    obtain rfl : s = 0 := Nat.le_zero.mp hs
    exact ⟨fun _ => .inr rfl, fun _ => .head _⟩
  | most a n =>
    have : s ≤ n := hs
    exact ⟨fun _ => .inl w.2.1, fun _ => List.mem_map.mpr ⟨s, List.mem_range.mpr (by omega), rfl⟩⟩
  | answer a b =>
    have h1 : s ≤ 1 := hs
    constructor
    · intro h
      exact .inr (rm_inj (by omega) (by decide) (List.mem_singleton.mp h))
    · rintro (h | rfl)
      · exact absurd rfl h
      · exact .head _
  | _ =>
    refine ⟨fun _ => .inl (by first | exact w.2.2.1 | exact w.2.2.2.1 | exact w.2.2.2.2), fun _ => ?_⟩
    rcases (show s = 0 ∨ s = 1 from (by have : s ≤ 1 := hs; omega)) with rfl | rfl
    · exact .head _
    · exact .tail _ (.head _)
inductive RuleAt (Cs : Nat → Addr) (H : Hp) (x : Addr) (k : RK) : Prop
  | mk (dx : Addr) (h : H x = some (.ins (Cs k.idx) dx k.flds))
theorem RuleAt.same {Cs : Nat → Addr} {H H' : Hp} {x : Addr} {k : RK} (R : RuleAt Cs H x k) (sm : Same H H') : RuleAt Cs H' x k := by
  obtain ⟨dx, h⟩ := R
  exact ⟨dx, sm _ _ h⟩
noncomputable abbrev rMths : List Str := ["about", "machine"]
theorem flds_mth (k : RK) : ∀ m ∈ rMths, k.flds.lookup m = none := by
  have h : ∀ m ∈ rMths, (m == ("deed" : Str)) = false ∧ (m == ("many" : Str)) = false ∧ (m == ("one" : Str)) = false ∧ (m == ("other" : Str)) = false := by decide +kernel
  intro m hm
  obtain ⟨h1, h2, h3, h4⟩ := h m hm
  cases k <;> simp only [RK.flds, List.lookup, h1, h2, h3, h4]
structure RCls (K : PySem.W.Frag) (C : Addr) : Prop where
  cl : Cls K C
  n1 : NoAttr K C "deed"
  n2 : NoAttr K C "many"
  n3 : NoAttr K C "one"
  n4 : NoAttr K C "other"
inductive spTimes (vs : List V) (H : Hp) (Q : VK) (E : XK) : Prop
  | mk (n : Nat) (h0_ : vs = [.int n]) (h1_ : n ≤ 6) (h2_ : Q (.bl true) H)
inductive spNeverI (C : Addr) (vs : List V) (H : Hp) (Q : VK) (E : XK) : Prop
  | mk (x dx : Addr) (a : Str) (h0_ : vs = [.ref x, .str a]) (h1_ : H x = some (.ins C dx [])) (h2_ : ∀ H', SameBut x H H' → H' x = some (.ins C dx [("deed", .str a)]) → Q .non H')
inductive spMostI (C : Addr) (vs : List V) (H : Hp) (Q : VK) (E : XK) : Prop
  | mk (x dx : Addr) (a : Str) (n : Nat) (h0_ : vs = [.ref x, .str a, .int n]) (hn : n ≤ 6) (h1_ : H x = some (.ins C dx [])) (h2_ : ∀ H', SameBut x H H' → H' x = some (.ins C dx [("deed", .str a), ("many", .int n)]) → Q .non H')
inductive spTwoI (K : PySem.W.Frag) (vs : List V) (H : Hp) (Q : VK) (E : XK) : Prop
  | mk (x dx C : Addr) (a b : Str) (h0_ : vs = [.ref x, .str a, .str b]) (hab : a ≠ b) (hC : RCls K C) (h1_ : H x = some (.ins C dx [])) (h2_ : ∀ H', SameBut x H H' → H' x = some (.ins C dx [("one", .str a), ("other", .str b)]) → Q .non H')
inductive spAboutM (Cs : Nat → Addr) (i : Nat) (vs : List V) (H : Hp) (Q : VK) (E : XK) : Prop
  | mk (x : Addr) (k : RK) (h0_ : vs = [.ref x]) (hi : k.idx = i) (h1_ : RuleAt Cs H x k) (h2_ : ∀ l, H l = none → Q (.ref l) (upd H l (.lst (k.about.map V.str))))
inductive spRM (C CM : Addr) (Cs : Nat → Addr) (i : Nat) (vs : List V) (H : Hp) (Q : VK) (E : XK) : Prop
  | mk (x dd : Addr) (k : RK) (ss : List Str) (wk : List (Key × V)) (h0_ : vs = [.ref x, .ref dd]) (hi : k.idx = i) (h1_ : RuleAt Cs H x k) (h2_ : k.Ok ss) (h3_ : ∀ z ∈ ss, goodV wk (.str z) = true) (h4_ : Short ss) (h5_ : WAt C H dd wk)
    (h6_ : ∀ X H', Same H H' → MM CM H' X dd (rmN 0) k.ends k.kn k.doors → Q (.ref X) H')
end Ky
namespace K32
open PySem L2 Ky
seal L2.PE L2.PS L2.PSs L2.PA L2.PT L2.PW L2.PG L2.PI L2.PTs L2.PO L2.OpR L2.IxR L2.CallR L2.MtM L2.MtR
noncomputable def top (i : Nat) : Stmt := PySem.Challenge.pw_roomward_k32_whole_rules_keep.main.body.getD i (.Pass ⟨0, 0, 0, 0⟩)
noncomputable abbrev sName : Stmt := top 14
noncomputable abbrev sRefuse : Stmt := top 15
noncomputable abbrev sWeights : Stmt := top 16
noncomputable abbrev sMarks : Stmt := top 17
noncomputable abbrev sDeeds : Stmt := top 18
noncomputable abbrev sInit : Stmt := inClass sDeeds 0
noncomputable abbrev sHas : Stmt := inClass sDeeds 3
noncomputable abbrev sRequire : Stmt := inClass sDeeds 4
noncomputable abbrev sNamed : Stmt := top 21
noncomputable abbrev sRefRooms : Stmt := top 22
noncomputable abbrev sLeads : Stmt := top 23
noncomputable abbrev sMachine : Stmt := top 24
noncomputable abbrev sTimes : Stmt := top 27
noncomputable abbrev sNever : Stmt := top 29
noncomputable abbrev sMost : Stmt := top 30
noncomputable abbrev sOfTwo : Stmt := top 31
noncomputable abbrev sAhead : Stmt := top 32
noncomputable abbrev sTurns : Stmt := top 33
noncomputable abbrev sHold : Stmt := top 34
noncomputable abbrev sAnswer : Stmt := top 35
noncomputable abbrev sKeeps : Stmt := top 36
noncomputable abbrev sMixed : Stmt := top 38
noncomputable abbrev sCell : Stmt := top 39
noncomputable abbrev sNamesBy : Stmt := top 40
noncomputable abbrev sDeedsBy : Stmt := top 41
noncomputable abbrev sRuleOf : Stmt := top 42
noncomputable abbrev sAboutL : Stmt := top 43
noncomputable abbrev sNext : Stmt := top 44
noncomputable abbrev sDrawn : Stmt := top 47
noncomputable abbrev sTwo : Stmt := top 48
noncomputable abbrev sRow : Stmt := top 49
noncomputable abbrev sDue : Stmt := top 50
noncomputable abbrev sSomeRow : Stmt := top 51
noncomputable abbrev sLaw : Stmt := top 52
noncomputable abbrev mInit : Stmt := inClass sMachine 0
noncomputable abbrev mReqRoom : Stmt := inClass sMachine 6
noncomputable abbrev mIsEnd : Stmt := inClass sMachine 9
noncomputable abbrev mGoes : Stmt := inClass sMachine 10
noncomputable abbrev mBehind : Stmt := inClass sMachine 11
noncomputable abbrev nInit : Stmt := inClass sNever 0
noncomputable abbrev nAbout : Stmt := inClass sNever 1
noncomputable abbrev nMach : Stmt := inClass sNever 2
noncomputable abbrev oInit : Stmt := inClass sMost 0
noncomputable abbrev oAbout : Stmt := inClass sMost 1
noncomputable abbrev oMach : Stmt := inClass sMost 2
noncomputable abbrev tInit : Stmt := inClass sOfTwo 0
noncomputable abbrev aInit : Stmt := inClass sAhead 0
noncomputable abbrev aMach : Stmt := inClass sAhead 1
noncomputable abbrev uInit : Stmt := inClass sTurns 0
noncomputable abbrev uMach : Stmt := inClass sTurns 1
noncomputable abbrev hInit : Stmt := inClass sHold 0
noncomputable abbrev hMach : Stmt := inClass sHold 1
noncomputable abbrev wInit : Stmt := inClass sAnswer 0
noncomputable abbrev wMach : Stmt := inClass sAnswer 1
structure Txt (K : PySem.W.Frag) (mg : Str → Option Value) : Prop where
  lett : ∃ t, mg "LETTERS" = some (.str letters t)
  figu : ∃ t, mg "FIGURES" = some (.str figures t)
  most : ∃ t, mg "MOST_SIGNS" = some (.int 8 t)
  deeds : ∃ t, mg "MOST_DEEDS" = some (.int 12 t)
  isi : mg "isinstance" = none
  str : mg "str" = none
  bool : mg "bool" = none
  int : mg "int" = none
  len : mg "len" = none
  all : mg "all" = none
  range : mg "range" = none
  sorted : mg "sorted" = none
  list : mg "list" = none
  enum : mg "enumerate" = none
section
variable {P : Program} {w : World} {K : PySem.W.Frag} {mg : Str → Option Value} {base : Heap}
theorem scM : FnScope ["_law_cell", "_law_k", "_law_one"] ["_law_cell", "_law_k"] (defScope sMixed) := ⟨rfl, rfl, rfl, by decide +kernel, rfl, by decide +kernel, by decide +kernel⟩
theorem ok_mixed {f : Addr} {fd : FuncData} (F : Fun K "_law_mixed" "_law_mixed" sMixed f fd) : FnOk P w K mg base CX0 1 f fd ["_law_cell", "_law_k"] spMixed := by
  refine F.ok scM (fun vs H Q E h => ?_) (fun cdv A outer s H vs Q E hr h => ?_)
  · obtain ⟨c, k, rfl, _⟩ := h
    rfl
  · obtain ⟨c, k, rfl, q⟩ := h
    refine ⟨_, pss_cons (ps_set (i := 2) scM.nd rfl (Or.inl rfl) (pe_op op_mod (pe_op op_mul (pe_op op_add (pv 0) (pe_op op_mul pe_int (pv 1))) pe_int) pe_int))
      (pss_one (ps_ret (pe_op op_mod (pe_op op_mul (pv 2) (pe_op op_add (pe_op op_add (pv 2) (pe_op op_mul pe_int (pv 1))) pe_int)) pe_int))), ?_⟩
    refine ⟨_, rfl, _, rfl, _, _, rfl, rfl, .inl ⟨by decide, by decide⟩, _, _, rfl, rfl, _, _, rfl, rfl, .inr ⟨by decide, by decide⟩, _, _, rfl, rfl, (by show (0 : Int) < 2147483647; decide), ?_⟩
    have h0 : 0 ≤ (c + 7919 * k) * 48271 % 2147483647 := Int.emod_nonneg _ (by decide)
    have h1 : (c + 7919 * k) * 48271 % 2147483647 < 2147483647 := Int.emod_lt_of_pos _ (by decide)
    refine ⟨_, rfl, _, rfl, _, rfl, _, _, rfl, rfl, .inl ⟨by decide, by decide⟩, _, _, rfl, rfl, _, _, rfl, rfl, _, _, rfl, rfl, .inl ⟨?_, ?_⟩, _, _, rfl, rfl, (by show (0 : Int) < 2147483629; decide), q⟩
    · exact Int.lt_of_lt_of_le (by decide) h0
    · exact Int.lt_of_lt_of_le h1 (by decide)
theorem scC : FnScope ["_law_script", "_law_k"] ["_law_script", "_law_k"] (defScope sCell) := ⟨rfl, rfl, rfl, by decide +kernel, rfl, by decide +kernel, by decide +kernel⟩
theorem ok_cell {f fM : Addr} {fd fdM : FuncData} (F : Fun K "_law_cell_at" "_law_cell_at" sCell f fd) (T : Txt K mg) (FM : Fun K "_law_mixed" "_law_mixed" sMixed fM fdM) (bM : Binds K fdM ["_law_cell", "_law_k"] []) (mM : mg "_law_mixed" = some (.ref fM)) :
    FnOk P w K mg base CX0 2 f fd ["_law_script", "_law_k"] (spCell K) := by
  have GM : FnOk P w K mg base CX0 1 fM fdM ["_law_cell", "_law_k"] spMixed := ok_mixed FM
  refine F.ok scC (fun vs H Q E h => ?_) (fun cdv A outer s H vs Q E hr h => ?_)
  · obtain ⟨a, ns, k, rfl, _⟩ := h
    rfl
  · obtain ⟨a, ns, k, rfl, hS, q⟩ := h
    refine ⟨_, pss_cons (ps_if (pt_cmpR op_lt (pv 1) (pe_callB call_len_seq (by rfl) T.len PySem.boot_len (pa_cons (pv 0) pa_nil)) (nomark _))
        (pss_one (ps_ret (pe_call GM hr rfl mM FM.kp bM .nil pass0 (pa_cons (pe_ix ix_list (pv 0) (pv 1) (fun _ _ => rfl)) (pa_cons (pv 1) pa_nil))))) pss_nil)
      (pss_one (ps_ret pe_int)), ?_⟩
    refine ⟨_, rfl, _, rfl, a, _, rfl, .inl hS, _, _, rfl, rfl, _, rfl, ?_⟩
    rw [List.length_map]
    refine ite2 (fun hk => ?_) (fun hk => ?_)
    · have hk' : k < ns.length := by have := of_decide_eq_true hk; omega
      have ek : ns[k]? = some ns[k] := by simp [hk']
      refine ⟨_, rfl, _, rfl, a, _, _, _, rfl, rfl, hS, atI_nat (v := V.int ns[k]) (by rw [List.getElem?_map, ek]; rfl), _, rfl, ns[k], k, rfl, ?_⟩
      have e : RW.cellAt ns k = RW.mixed ns[k] k := by unfold RW.cellAt; rw [ek]
      rw [← e]
      exact q
    · have hk' : ¬ k < ns.length := by intro z; exact hk (decide_eq_true (by omega))
      have e : RW.cellAt ns k = 0 := by unfold RW.cellAt; rw [List.getElem?_eq_none (by omega)]
      rw [e] at q
      exact q
theorem scN : FnScope ["thing", "signs"] ["thing"] (defScope sName) := ⟨rfl, rfl, rfl, by decide +kernel, rfl, by decide +kernel, by decide +kernel⟩
theorem ok_name {f : Addr} {fd : FuncData} (F : Fun K "is_name" "is_name" sName f fd) (T : Txt K mg) : FnOk P w K mg base CX0 1 f fd ["thing"] (spName K) := by
  obtain ⟨tl, mL⟩ := T.lett
  obtain ⟨tf, mF⟩ := T.figu
  obtain ⟨tm, mM⟩ := T.most
  refine F.ok scN (fun vs H Q E h => ?_) (fun cdv A outer s H vs Q E hr h => ?_)
  · obtain ⟨x, rfl, _⟩ := h
    rfl
  · obtain ⟨x, rfl, h⟩ := h
    refine ⟨_, pss_cons (ps_if (pw_or (pt_not (pt_val (pe_callB call_isi (by rfl) T.isi Bo.isinstance (pa_cons (pv 0) (pa_cons (pe_bltn (v := .ty "str") (by rfl) T.str Bo.str rfl) pa_nil)))))
          (pw_or (pt_not (pt_truth (pv 0) (fun _ => rfl)))
          (pw_or1 (pt_cmpR op_gt (pe_callB call_len_str (by rfl) T.len Bo.len (pa_cons (pv 0) pa_nil)) (pe_glob (v := .int 8) (by rfl) mM ⟨_, rfl⟩) (nomark _))))).pt
        (pss_one (ps_ret pe_bl)) pss_nil)
      (pss_cons (ps_set (i := 1) scN.nd rfl (Or.inr rfl) (pe_op op_add_str (pe_glob (v := .str letters) (by rfl) mL ⟨_, rfl⟩) (pe_glob (v := .str figures) (by rfl) mF ⟨_, rfl⟩)))
      (pss_one (ps_ret (pe_and (pe_cmpR op_in_str (pe_ix ix_str (pv 0) pe_int (fun _ _ => rfl)) (pe_glob (v := .str letters) (by rfl) mL ⟨_, rfl⟩) (by with_unfolding_all rfl))
        (pe_one (pe_callB (call_allB rfl) (by rfl) T.all Bo.all (pa_cons (pe_comp (N' := ["sign", "signs"]) (nown := 1) (js := [1]) rfl
          ⟨rfl, by decide +kernel, by decide +kernel⟩ (blkNames (defScope sName) ["thing", "signs"] rfl rfl (by decide +kernel))
          ⟨fun _ _ _ _ => pg_name (i := 0) (show List.Nodup (["sign", "signs"] : List Str) by decide +kernel) rfl (Or.inl rfl) (.inr rfl), fun _ _ _ _ => pts_nil, fun _ _ _ _ => pe_cmpR op_in_str (pv 0) (pv 1) (by with_unfolding_all rfl)⟩
          (pi_str (pv 0))) pa_nil))))))), ?_⟩
    rcases h with ⟨z, rfl, hz, q⟩ | ⟨t, ty, hk, q⟩
    · refine ⟨_, rfl, .str z, .ty "str", .type "str", .type "str", true, rfl, rel_ty, TyOf.str z, rfl, _, rfl, iteF ?_⟩
      refine ⟨_, rfl, _, ⟨hz, rfl⟩, ?_⟩
      by_cases h0 : z.length = 0
      · rw [h0]
        refine iteT (iteT ?_)
        have e : isNameS z = false := by
          have : z.cps.toList.length = 0 := by rw [Array.length_toList]; exact h0
          unfold isNameS isNameL
          rw [List.length_eq_zero_iff.mp this]
          rfl
        have q' := q H (Same.refl H)
        rw [e] at q'
        exact q'
      · have hb : ((z.length : Int) != 0) = true := by simp [h0]
        rw [hb]
        refine iteF ⟨_, rfl, z, rfl, hz, _, _, rfl, rfl, _, rfl, ?_⟩
        refine ite2 (fun h8 => ?_) (fun h8 => ?_)
        · have h8' : 8 < z.length := by have := of_decide_eq_true h8; omega
          have e : isNameS z = false := by
            have hl : z.cps.toList.length = z.length := by simp [Str.length]
            unfold isNameS isNameL
            rw [decide_eq_false (by omega)]
            rfl
          have q' := q H (Same.refl H)
          rw [e] at q'
          exact q'
        · have h8' : z.length ≤ 8 := by
            by_cases z8 : z.length ≤ 8
            · exact z8
            · exact absurd (decide_eq_true (show (8 : Int) < (z.length : Int) by omega)) h8
          have hl : z.cps.toList.length = z.length := by simp [Str.length]
          obtain ⟨c, cs, ec⟩ : ∃ c cs, z.cps.toList = c :: cs := by
            cases e : z.cps.toList with
            | nil => rw [e] at hl; exact absurd hl.symm h0
            | cons c cs => exact ⟨c, cs, rfl⟩
          have hat : atI z.cps.toList 0 = some c := by
            rw [ec]
            exact atI_nat (j := 0) rfl
          have hn : isNameS z = (isLetter c && z.cps.toList.all isSign) := by
            unfold isNameS isNameL
            rw [decide_eq_true (show 1 ≤ z.cps.toList.length ∧ z.cps.toList.length ≤ 8 by omega)]
            rw [ec]
            rfl
          refine ⟨_, _, rfl, rfl, by decide +kernel, ?_⟩
          refine ⟨_, rfl, z, 0, c, rfl, rfl, hz, hat, _, _, rfl, rfl, _, rfl, ?_⟩
          rw [StrLaws.found_one, mem_letters]
          refine ite2 (fun hc => ?_) (fun hc => ?_)
          · refine ⟨_, rfl, z, rfl, fun D hD => blk_str (x := z) (fun i σ' H' => ∃ v, σ' = [v, some (.str (letters ++ figures))] ∧ H' D = some (.lst (((z.cps.toList.take i).map isSign).map V.bl)) ∧ Same H H') ?_ ?_ ?_⟩
            · exact ⟨none, rfl, upd_same, fun b o e => by rw [upd_ne (ne_of_none e hD)]; exact e⟩
            · rintro i d σ' H' hd ⟨v, rfl, hl', sm⟩
              refine ⟨_, rfl, _, rfl, _, _, rfl, rfl, _, hl', ?_, some (signV d), rfl, ?_, ?_⟩
              · refine small1000 ?_
                rw [List.length_map, List.length_map, List.length_take]
                omega
              · rw [upd_same, StrLaws.found_one, mem_signs]
                have hd' : z.cps.toList[i]? = some d := by rw [Array.getElem?_toList]; exact hd
                rw [List.take_succ, hd']
                simp
              · intro b o e
                have e' := sm b o e
                rw [upd_ne (ne_of_none e hD)]
                exact e'
            · rintro σ' H' ⟨v, rfl, hl', sm⟩
              refine ⟨D, _, rfl, SqL.of hl', ?_⟩
              have q' := q H' sm
              rw [hn, hc, Bool.true_and] at q'
              have ea : ((z.cps.toList.take z.cps.size).map isSign).all id = z.cps.toList.all isSign := by
                rw [List.take_of_length_le (by simp), List.all_map]
                rfl
              rw [ea]
              exact q'
          · have q' := q H (Same.refl H)
            rw [hn, Bool.eq_false_iff.mpr hc, Bool.false_and] at q'
            exact q'
    · refine ⟨_, rfl, x, .ty "str", .type "str", t, false, rfl, rel_ty, ty, hk, _, rfl, iteT (iteT ?_)⟩
      exact q
theorem scW : FnScope ["names", "weights", "weight", "name"] ["names"] (defScope sWeights) := ⟨rfl, rfl, rfl, by decide +kernel, rfl, by decide +kernel, by decide +kernel⟩
theorem ok_weights {f : Addr} {fd : FuncData} (F : Fun K "weights_of" "weights_of" sWeights f fd) (T : Txt K mg) : FnOk P w K mg base CX0 1 f fd ["names"] (spWeights K) := by
  refine F.ok scW (fun vs H Q E h => ?_) (fun cdv A outer s H vs Q E hr h => ?_)
  · obtain ⟨a, ss, rfl, _⟩ := h
    rfl
  · obtain ⟨a, ss, rfl, hS, h64, q⟩ := h
    have hu := hu_of hr
    refine ⟨_, pss_cons (ps_set (i := 1) scW.nd rfl (Or.inl rfl) pe_dnewK)
      (pss_cons (ps_set (i := 2) scW.nd rfl (Or.inl rfl) pe_int)
      (pss_cons (ps_for PassesOwn.never rfl (pi_list (pe_callB call_sortedS (by rfl) T.sorted Bo.sorted (pac (pv 0) pa_nil))) (pg_name (i := 3) scW.nd rfl (Or.inl rfl))
        (pss_cons (ps_dput hu (pv 1) (pv 3) (pv 2) rfl) (pss_one (ps_set (i := 2) scW.nd rfl (Or.inl rfl) (pe_op op_mul (pv 2) pe_int)))))
      (pss_one (ps_ret (pv 1))))), ?_⟩
    intro d hd
    have s0 : Same H (upd H d (.dK [])) := fun b o e => by rw [upd_ne (ne_of_none e hd)]; exact e
    refine ⟨_, rfl, a, ss, rfl, s0.seq hS, h64, fun p ss' hp pm so => ⟨p, rfl, ⟨_, SqL.of upd_same⟩, ?_⟩⟩
    have hpd : p ≠ d := fun z => by rw [z, upd_same] at hp; cases hp
    have hpH : H p = none := by rw [upd_ne hpd] at hp; exact hp
    have hlen : ss'.length = ss.length := pm.length_eq
    refine for_list (xs := ss'.map V.str) (fun i σ H' => ∃ wv kvs nv, σ = [some (.ref a), some (.ref d), some (.int wv), nv] ∧ H' d = some (.dK kvs) ∧ H' p = some (.lst (ss'.map V.str)) ∧ Same H H' ∧ kvs.length ≤ i ∧ wts (ss'.drop i) wv kvs = wts ss' 1 []) ?_ ?_ ?_ ?_
    · exact ⟨1, [], none, rfl, by rw [upd_ne (Ne.symm hpd), upd_same], upd_same, fun b o e => by rw [upd_ne (ne_of_none e hpH), upd_ne (ne_of_none e hd)]; exact e, Nat.le_refl _, rfl⟩
    · rintro i σ H' _ ⟨wv, kvs, nv, rfl, h1, h2, h3, h4, h5⟩
      exact SqL.of h2
    · rintro i x σ H' hx ⟨wv, kvs, nv, rfl, h1, h2, h3, h4, h5⟩
      rw [List.getElem?_map] at hx
      cases hz : ss'[i]? with
      | none => rw [hz] at hx; cases hx
      | some z =>
        rw [hz] at hx
        cases hx
        have hi : i < ss'.length := (List.getElem?_eq_some_iff.mp hz).1
        refine ⟨_, rfl, _, rfl, _, rfl, d, _, rfl, DPut.k (k := Sum.inr z) h1 (small1000 (by omega)), ?_⟩
        refine ⟨_, rfl, _, _, rfl, rfl, .inr ⟨by decide, by decide⟩, wv * 2, putK kvs (Sum.inr z) (.int wv), some (.str z), rfl, upd_same, by rw [upd_ne hpd]; exact h2, fun b o e => ?_, ?_, ?_⟩
        · rw [upd_ne (ne_of_none e hd)]; exact h3 b o e
        · exact Nat.le_trans (length_putK _ _ _) (by omega)
        · rw [← h5, List.drop_eq_getElem_cons hi]
          rw [(List.getElem?_eq_some_iff.mp hz).2]
          rfl
    · rintro σ H' ⟨wv, kvs, nv, rfl, h1, h2, h3, h4, h5⟩
      rw [List.length_map, List.drop_length] at h5
      refine ⟨_, rfl, q d ss' H' h3 hd pm so ?_⟩
      rw [h1]
      exact congrArg (fun z => some (HO.dK z)) h5
theorem scK : FnScope ["names", "marks", "name"] ["names"] (defScope sMarks) := ⟨rfl, rfl, rfl, by decide +kernel, rfl, by decide +kernel, by decide +kernel⟩
theorem ok_marks {f : Addr} {fd : FuncData} (F : Fun K "marks_of" "marks_of" sMarks f fd) (T : Txt K mg) : FnOk P w K mg base CX0 1 f fd ["names"] (spMarks K) := by
  refine F.ok scK (fun vs H Q E h => ?_) (fun cdv A outer s H vs Q E hr h => ?_)
  · obtain ⟨a, ss, rfl, _⟩ := h
    rfl
  · obtain ⟨a, ss, rfl, hS, hlen, q⟩ := h
    have hu := hu_of hr
    refine ⟨_, pss_cons (ps_set (i := 1) scK.nd rfl (Or.inl rfl) pe_dnewK)
      (pss_cons (ps_for PassesOwn.never rfl (pi_list (pv 0)) (pg_name (i := 2) scK.nd rfl (Or.inl rfl)) (pss_one (ps_dput hu (pv 1) (pv 2) pe_bl rfl)))
      (pss_one (ps_ret (pv 1)))), ?_⟩
    intro d hd
    have s0 : Same H (upd H d (.dK [])) := fun b o e => by rw [upd_ne (ne_of_none e hd)]; exact e
    refine ⟨_, rfl, a, rfl, ⟨_, s0.seq hS⟩, ?_⟩
    refine for_list (xs := ss.map V.str) (fun i σ H' => ∃ kvs nv, σ = [some (.ref a), some (.ref d), nv] ∧ H' d = some (.dK kvs) ∧ Same H H' ∧ kvs.length ≤ i ∧ mks (ss.drop i) kvs = mks ss []) ?_ ?_ ?_ ?_
    · exact ⟨[], none, rfl, upd_same, s0, Nat.le_refl _, rfl⟩
    · rintro i σ H' _ ⟨kvs, nv, rfl, h1, h3, h4, h5⟩
      exact h3.seq hS
    · rintro i x σ H' hx ⟨kvs, nv, rfl, h1, h3, h4, h5⟩
      rw [List.getElem?_map] at hx
      cases hz : ss[i]? with
      | none => rw [hz] at hx; cases hx
      | some z =>
        rw [hz] at hx
        cases hx
        have hi : i < ss.length := (List.getElem?_eq_some_iff.mp hz).1
        refine ⟨_, rfl, _, rfl, d, _, rfl, DPut.k (k := Sum.inr z) h1 (small1000 (by omega)), putK kvs (Sum.inr z) (.bl true), some (.str z), rfl, upd_same, fun b o e => ?_, ?_, ?_⟩
        · rw [upd_ne (ne_of_none e hd)]; exact h3 b o e
        · exact Nat.le_trans (length_putK _ _ _) (by omega)
        · rw [← h5, List.drop_eq_getElem_cons hi]
          rw [(List.getElem?_eq_some_iff.mp hz).2]
          rfl
    · rintro σ H' ⟨kvs, nv, rfl, h1, h3, h4, h5⟩
      rw [List.length_map, List.drop_length] at h5
      refine ⟨_, rfl, q d H' h3 hd ?_⟩
      rw [h1]
      exact congrArg (fun z => some (HO.dK z)) h5
end
end K32
namespace K32
open PySem L2 Ky
seal L2.PE L2.PS L2.PSs L2.PA L2.PT L2.PW L2.PG L2.PI L2.PTs L2.PO L2.OpR L2.IxR L2.CallR L2.MtM L2.MtR
structure Exc (K : PySem.W.Frag) (mg : Str → Option Value) (cl : Why → Addr) : Prop where
  nn : mg "NoName" = some (.ref (cl .noName))
  nd : mg "NoDeed" = some (.ref (cl .noDeed))
  tt : mg "TwiceTold" = some (.ref (cl .twice))
  tm : mg "TooMany" = some (.ref (cl .tooMany))
  x : ∀ k, ExcC K (cl k)
section
variable {P : Program} {w : World} {K : PySem.W.Frag} {mg : Str → Option Value} {base : Heap}
theorem scR : FnScope ["names", "ahead", "name"] ["names"] (defScope sRefuse) := ⟨rfl, rfl, rfl, by decide +kernel, rfl, by decide +kernel, by decide +kernel⟩
theorem ok_refuse {f fN : Addr} {fd fdN : FuncData} {cl : Why → Addr} (F : Fun K "refuse_names" "refuse_names" sRefuse f fd) (T : Txt K mg) (Ex : Exc K mg cl)
    (FN : Fun K "is_name" "is_name" sName fN fdN) (bN : Binds K fdN ["thing"] []) (mN : mg "is_name" = some (.ref fN)) :
    FnOk P w K mg base (CXE P w) 2 f fd ["names"] (spRefuse K cl) := by
  have GN : FnOk P w K mg base CX0 1 fN fdN ["thing"] (spName K) := ok_name FN T
  obtain ⟨tm, mD⟩ := T.deeds
  refine okE F scR (fun vs H Q E h => ?_) (fun cdv A outer s H vs Q E hr h D => ?_)
  · obtain ⟨a, ss, rfl, _⟩ := h
    rfl
  · obtain ⟨a, ss, rfl, hS, hsh, q⟩ := h
    have hu := hu_of hr
    refine ⟨_, pss_cons (ps_if (pt_cmpR op_gt (pe_callB call_len_seq (by rfl) T.len Bo.len (pac (pv 0) pa_nil)) (pe_glob (v := .int 12) (by rfl) mD ⟨_, rfl⟩) (nomark _))
        (pss_one (ps_raise D rfl (by rfl) Ex.tm (Ex.x .tooMany) (pac pe_str pa_nil))) pss_nil)
      (pss_cons (ps_set (i := 1) scR.nd rfl (Or.inl rfl) pe_dnewK)
      (pss_one (ps_for PassesOwn.leaving rfl (pi_list (pv 0)) (pg_name (i := 2) scR.nd rfl (Or.inl rfl))
        (pss_cons (ps_if (pt_not (pt_val (pe_call GN hr rfl mN FN.kp bN .nil pass0 (pac (pv 2) pa_nil)))) (pss_one (ps_raise D rfl (by rfl) Ex.nn (Ex.x .noName) (pac pe_str pa_nil))) pss_nil)
        (pss_cons (ps_if (pt_cmp (pc_din hu (pv 2) (pv 1))) (pss_one (ps_raise D rfl (by rfl) Ex.tt (Ex.x .twice) (pac (pe_join3 pe_str (pe_fmt (pv 2)) pe_str) pa_nil))) pss_nil)
        (pss_one (ps_dput hu (pv 1) (pv 2) pe_bl rfl))))))), ?_⟩
    refine ⟨_, rfl, a, _, rfl, .inl hS, _, _, rfl, rfl, _, rfl, ?_⟩
    rw [List.length_map]
    have fin : ∀ (k : Why) H', Same H H' → refused ss = some k → E (.ref (cl k)) none H' := fun k H' sm e => by
      have := q H' sm
      rw [e] at this
      exact this
    refine ite2 (fun h12 => ?_) (fun h12 => ?_)
    · have h12' : 12 < ss.length := by have := of_decide_eq_true h12; omega
      exact ⟨by show 1 ≤ sizeLine; decide, fin .tooMany H (Same.refl H) (if_pos h12')⟩
    · have h12' : ¬ 12 < ss.length := fun z => h12 (decide_eq_true (by omega))
      have er : refused ss = scan [] ss := if_neg h12'
      intro d hd
      have s0 : Same H (upd H d (.dK [])) := fun b o e => by rw [upd_ne (ne_of_none e hd)]; exact e
      refine ⟨_, rfl, a, rfl, ⟨_, s0.seq hS⟩, ?_⟩
      refine for_list (xs := ss.map V.str) (fun i σ H' => ∃ kvs nv, σ = [some (.ref a), some (.ref d), nv] ∧ H' d = some (.dK kvs) ∧ Same H H' ∧ kvs.length ≤ i ∧ (∀ z, (valV kvs (Sum.inr z)).isSome = decide (z ∈ ss.take i)) ∧ scan (ss.take i) (ss.drop i) = scan [] ss) ?_ ?_ ?_ ?_
      · exact ⟨[], none, rfl, upd_same, s0, Nat.le_refl _, fun z => by simp [valV], rfl⟩
      · rintro i σ H' _ ⟨kvs, nv, rfl, h1, h3, h4, h5, h6⟩
        exact h3.seq hS
      · rintro i x σ H' hx ⟨kvs, nv, rfl, h1, h3, h4, h5, h6⟩
        rw [List.getElem?_map] at hx
        cases hz : ss[i]? with
        | none => rw [hz] at hx; cases hx
        | some z =>
          rw [hz] at hx
          cases hx
          obtain ⟨hi, hzi⟩ := List.getElem?_eq_some_iff.mp hz
          have hzl : z.length ≤ 1000 := hsh z (List.mem_of_getElem? hz)
          have ed : ss.drop i = z :: ss.drop (i + 1) := by rw [List.drop_eq_getElem_cons hi, hzi]
          have et : ss.take (i + 1) = ss.take i ++ [z] := by rw [List.take_succ, hz]; rfl
          have sl : sizeLine = 16777216 := sizeLine_eq
          rw [ed] at h6
          refine ⟨_, rfl, .str z, rfl, .inl ⟨z, rfl, by omega, fun H2 sm2 => ⟨_, rfl, ?_⟩⟩⟩
          have s2 : Same H H2 := h3.trans sm2
          by_cases hn : isNameS z = true
          · rw [hn]
            refine iteF ⟨_, rfl, _, rfl, d, _, rfl, DGet.k (k := Sum.inr z) (sm2 d _ h1), _, rfl, ?_⟩
            rw [h5 z]
            by_cases hm : z ∈ ss.take i
            · rw [decide_eq_true hm]
              refine iteT ⟨_, rfl, ?_, _, rfl, z, rfl, by omega, _, rfl, ?_, _, rfl, ?_, ?_, by show 1 ≤ sizeLine; decide, fin .twice H2 s2 ?_⟩
              · rw [len_cat]; show 0 + 9 ≤ sizeLine; decide
              · rw [len_cat, len_cat]; show 0 + 9 + z.length ≤ sizeLine; omega
              · rw [len_cat, len_cat, len_cat]; show 0 + 9 + z.length + 14 ≤ sizeLine; omega
              · rw [len_cat, len_cat, len_cat]; show 0 + 9 + z.length + 14 ≤ sizeLine; omega
              · rw [er, ← h6]
                show (if isNameS z = true then (if z ∈ ss.take i then some Why.twice else scan (ss.take i ++ [z]) (ss.drop (i + 1))) else some .noName) = _
                rw [if_pos hn, if_pos hm]
            · rw [decide_eq_false hm]
              refine iteF ⟨_, rfl, _, rfl, d, _, rfl, DPut.k (k := Sum.inr z) (sm2 d _ h1) (small1000 (by omega)), putK kvs (Sum.inr z) (.bl true), some (.str z), rfl, upd_same, fun b o e => ?_, ?_, fun y => ?_, ?_⟩
              · rw [upd_ne (ne_of_none e hd)]; exact s2 b o e
              · exact Nat.le_trans (length_putK _ _ _) (by omega)
              · rw [valV_put, et]
                by_cases hy : y = z
                · subst hy
                  rw [if_pos rfl]
                  simp
                · rw [if_neg (fun e => hy (Sum.inr.inj e)), h5 y]
                  simp [hy]
              · rw [et, ← h6]
                show _ = if isNameS z = true then (if z ∈ ss.take i then some .twice else scan (ss.take i ++ [z]) (ss.drop (i + 1))) else some .noName
                rw [if_pos hn, if_neg hm]
          · rw [Bool.eq_false_iff.mpr hn]
            refine iteT ⟨by show 1 ≤ sizeLine; decide, fin .noName H2 s2 ?_⟩
            rw [er, ← h6]
            exact if_neg hn
      · rintro σ H' ⟨kvs, nv, rfl, h1, h3, h4, h5, h6⟩
        rw [List.length_map, List.drop_length, List.take_length] at h6
        have := q H' h3
        rw [er, ← h6] at this
        exact this
structure DCls (K : PySem.W.Frag) (C : Addr) : Prop where
  cl : Cls K C
  nw : NoAttr K C "weights"
  nf : NoAttr K C "free_marks"
theorem scH : FnScope ["self", "thing"] ["self", "thing"] (defScope sHas) := ⟨rfl, rfl, rfl, by decide +kernel, rfl, by decide +kernel, by decide +kernel⟩
theorem kitN (K : PySem.W.Frag) : PySem.W.kitOne K (.type "NoneType") (.type "str") = some false := by
  unfold PySem.W.kitOne PySem.W.kitCls
  rw [if_neg (by decide)]
  dsimp only
  rw [if_pos (by decide +kernel)]
  show (PySem.fastBuiltinMro "NoneType").map _ = _
  decide +kernel
theorem kitI (K : PySem.W.Frag) : PySem.W.kitOne K (.type "int") (.type "str") = some false := by
  unfold PySem.W.kitOne PySem.W.kitCls
  rw [if_neg (by decide)]
  dsimp only
  rw [if_pos (by decide +kernel)]
  show (PySem.fastBuiltinMro "int").map _ = _
  decide +kernel
theorem ok_has {f fN C : Addr} {fd fdN : FuncData} (F : Fun K "has" "Deeds.has" sHas f fd) (T : Txt K mg) (DC : DCls K C)
    (FN : Fun K "is_name" "is_name" sName fN fdN) (bN : Binds K fdN ["thing"] []) (mN : mg "is_name" = some (.ref fN)) :
    FnOk P w K mg base CX0 2 f fd ["self", "thing"] (spHas K C) := by
  have GN : FnOk P w K mg base CX0 1 fN fdN ["thing"] (spName K) := ok_name FN T
  refine F.ok scH (fun vs H Q E h => ?_) (fun cdv A outer s H vs Q E hr h => ?_)
  · obtain ⟨p, x, kvs, rfl, _⟩ := h
    rfl
  · obtain ⟨p, x, kvs, rfl, hz, ⟨dx, fs, dw, o, hp, hm, hw, hk⟩, q⟩ := h
    have hu := hu_of hr
    refine ⟨_, pss_one (ps_ret (pe_and (pe_call GN hr rfl mN FN.kp bN .nil pass0 (pac (pv 1) pa_nil)) (pe_one (pe_cmp (pc_din hu (pv 1) (pe_fld (pv 0) rfl)))))), ?_⟩
    rcases hz with ⟨z, rfl, hz⟩ | rfl | rfl
    · refine ⟨_, rfl, .str z, rfl, .inl ⟨z, rfl, by have sl : sizeLine = 16777216 := sizeLine_eq; omega, fun H2 s2 => ⟨_, rfl, ?_⟩⟩⟩
      have q2 := q H2 s2
      refine ite2 (fun hn => ?_) (fun hn => ?_)
      · rw [goodV, hn, Bool.true_and] at q2
        exact ⟨_, rfl, _, rfl, p, C, dx, fs, _, rfl, s2 p _ hp, DC.cl, DC.nw, hw, dw, _, rfl, .inl ⟨kvs, Sum.inr z, .inr ⟨o, s2 dw _ hk⟩, rfl, rfl⟩, q2⟩
      · rw [goodV, Bool.eq_false_iff.mpr hn, Bool.false_and] at q2
        exact q2
    · exact ⟨_, rfl, .non, rfl, .inr ⟨_, .non, kitN K, _, rfl, iteF (q H (Same.refl H))⟩⟩
    · exact ⟨_, rfl, .int 5, rfl, .inr ⟨_, .int 5, kitI K, _, rfl, iteF (q H (Same.refl H))⟩⟩
theorem scQ : FnScope ["self", "row", "deed"] ["self", "row"] (defScope sRequire) := ⟨rfl, rfl, rfl, by decide +kernel, rfl, by decide +kernel, by decide +kernel⟩
theorem ok_require {f fN fH C : Addr} {fd fdN fdH : FuncData} {cl : Why → Addr} (F : Fun K "require" "Deeds.require" sRequire f fd) (T : Txt K mg) (Ex : Exc K mg cl) (DC : DCls K C)
    (FN : Fun K "is_name" "is_name" sName fN fdN) (bN : Binds K fdN ["thing"] []) (mN : mg "is_name" = some (.ref fN))
    (FH : Fun K "has" "Deeds.has" sHas fH fdH) (bH : Binds K fdH ["self", "thing"] []) (mH : Meth K C "has" fH) :
    FnOk P w K mg base (CXE P w) 3 f fd ["self", "row"] (spRequire K C cl) := by
  have GH : FnOk P w K mg base CX0 2 fH fdH ["self", "thing"] (spHas K C) := ok_has FH T DC FN bN mN
  refine okE F scQ (fun vs H Q E h => ?_) (fun cdv A outer s H vs Q E hr h D => ?_)
  · obtain ⟨p, b, fs, kvs, rfl, _⟩ := h
    rfl
  · obtain ⟨p, b, fs, kvs, rfl, hS, hsh, ⟨dx, fl, dw, o, hp, hm, hw, hk⟩, q⟩ := h
    refine ⟨_, pss_one (ps_for PassesOwn.leaving rfl (pi_list (pv 1)) (pg_name (i := 2) scQ.nd rfl (Or.inl rfl))
        (pss_one (ps_if (pt_not (pt_val (pe_meth (pv 0) DC.cl mH GH hr bH .nil pass0 (pac (pv 2) pa_nil)))) (pss_one (ps_raise D rfl (by rfl) Ex.nd (Ex.x .noDeed) (pac pe_str pa_nil))) pss_nil))), ?_⟩
    refine ⟨_, rfl, b, rfl, ⟨_, hS⟩, ?_⟩
    refine for_list (xs := fs) (fun i σ H' => ∃ nv, σ = [some (.ref p), some (.ref b), nv] ∧ Same H H' ∧ (fs.take i).all (goodV kvs) = true) ?_ ?_ ?_ ?_
    · exact ⟨none, rfl, Same.refl H, rfl⟩
    · rintro i σ H' _ ⟨nv, rfl, h3, h4⟩
      exact h3.seq hS
    · rintro i x σ H' hz ⟨nv, rfl, h3, h4⟩
      refine ⟨_, rfl, p, dx, fl, rfl, h3 p _ hp, hm "has" (by decide), _, rfl, p, x, kvs, rfl, hsh x (List.mem_of_getElem? hz), ⟨dx, fl, dw, o, h3 p _ hp, hm, hw, h3 dw _ hk⟩, fun H2 s2 => ⟨_, rfl, ?_⟩⟩
      cases hb : goodV kvs x with
      | true =>
        refine iteF ⟨some x, rfl, h3.trans s2, ?_⟩
        rw [List.take_succ, hz, List.all_append, h4]
        simp [hb]
      | false =>
        refine iteT ⟨by show 1 ≤ sizeLine; decide, ?_⟩
        have := q H2 (h3.trans s2)
        rw [if_neg ?_] at this
        · exact this
        · intro z'
          have := List.all_eq_true.mp z' x (List.mem_of_getElem? hz)
          rw [hb] at this
          cases this
    · rintro σ H' ⟨nv, rfl, h3, h4⟩
      rw [List.take_length] at h4
      have := q H' h3
      rw [if_pos h4] at this
      exact this
end
end K32
namespace K32
open PySem L2 Ky
seal L2.PE L2.PS L2.PSs L2.PA L2.PT L2.PW L2.PG L2.PI L2.PTs L2.PO L2.OpR L2.IxR L2.CallR L2.MtM L2.MtR
theorem seqBut {K : PySem.W.Frag} {H H' : Hp} {a x C dx : Addr} {fs : List (Str × V)} {xs : List V} (e : SameBut x H H') (hx : H x = some (.ins C dx fs)) (h : SqL K H a xs) : SqL K H' a xs := by
  rcases h with (h | ⟨o, h⟩) | h
  · exact .inl (.inl (e _ _ (fun z => by rw [z, hx] at h; cases h) h))
  · exact .inl (.inr ⟨o, e _ _ (fun z => by rw [z, hx] at h; cases h) h⟩)
  · exact .inr h
theorem noW (v : V) : ∀ m ∈ mths, List.lookup m [(("weights" : Str), v)] = none := by
  have h : ∀ m ∈ mths, (m == ("weights" : Str)) = false := by decide +kernel
  intro m hm
  simp only [List.lookup, h m hm]
theorem noW2 (v u : V) : ∀ m ∈ mths, List.lookup m [(("weights" : Str), v), (("free_marks" : Str), u)] = none := by
  have h : ∀ m ∈ mths, (m == ("weights" : Str)) = false ∧ (m == ("free_marks" : Str)) = false := by decide +kernel
  intro m hm
  simp only [List.lookup, (h m hm).1, (h m hm).2]
theorem all_good (kvs : List (Key × V)) (fs : List Str) : (fs.map V.str).all (goodV kvs) = fs.all (fun z => isNameS z && (valV kvs (Sum.inr z)).isSome) := by
  rw [List.all_map]
  rfl
theorem thing_str {fs : List Str} (h : Short fs) : ∀ x ∈ fs.map V.str, Thing x := fun x hx => by
  obtain ⟨z, hz, rfl⟩ := List.mem_map.mp hx
  exact .inl ⟨z, rfl, h z hz⟩
theorem valV_wts : ∀ (ss : List Str) (wv : Int) (kvs : List (Key × V)) (z : Str), (valV (wts ss wv kvs) (Sum.inr z)).isSome = (decide (z ∈ ss) || (valV kvs (Sum.inr z)).isSome)
  | [], _, kvs, z => by simp [wts]
  | s :: r, wv, kvs, z => by
    rw [wts, valV_wts r, valV_put]
    by_cases h : z = s
    · subst h
      simp
    · rw [if_neg fun e => h (Sum.inr.inj e)]
      simp [h]
section
variable {P : Program} {w : World} {K : PySem.W.Frag} {mg : Str → Option Value} {base : Heap}
theorem scI : FnScope ["self", "names", "free", "free_names"] ["self", "names", "free"] (defScope sInit) := ⟨rfl, rfl, rfl, by decide +kernel, rfl, by decide +kernel, by decide +kernel⟩
theorem ok_init {f fR fW fK fQ C : Addr} {fd fdR fdW fdK fdQ : FuncData} {cl : Why → Addr} (F : FunD K "__init__" "Deeds.__init__" sInit f fd) (T : Txt K mg) (DC : DCls K C)
    (GR : FnOk P w K mg base (CXE P w) 2 fR fdR ["names"] (spRefuse K cl)) (kR : PySem.W.keepIn K (.ref fR) = true) (bR : Binds K fdR ["names"] []) (mR : mg "refuse_names" = some (.ref fR))
    (GW : FnOk P w K mg base CX0 1 fW fdW ["names"] (spWeights K)) (kW : PySem.W.keepIn K (.ref fW) = true) (bW : Binds K fdW ["names"] []) (mW : mg "weights_of" = some (.ref fW))
    (GK : FnOk P w K mg base CX0 1 fK fdK ["names"] (spMarks K)) (kK : PySem.W.keepIn K (.ref fK) = true) (bK : Binds K fdK ["names"] []) (mK : mg "marks_of" = some (.ref fK))
    (GQ : FnOk P w K mg base (CXE P w) 3 fQ fdQ ["self", "row"] (spRequire K C cl)) (bQ : Binds K fdQ ["self", "row"] []) (mQ : Meth K C "require" fQ) :
    FnOk P w K mg base (CXE P w) 4 f fd ["self", "names", "free"] (spInit K C cl) := by
  refine okED F scI (fun vs H Q E h => ?_) (fun cdv A outer s H vs Q E hr h D => ?_)
  · obtain ⟨x, a, y, dx, ss, fs, rfl, _⟩ := h
    rfl
  · obtain ⟨x, a, y, dx, ss, fs, rfl, hx, hA, hB, hsh, hfh, hfl, q⟩ := h
    have hr1 : Room 1 _ := hr.mono (by decide)
    have hr2 : Room 2 _ := hr.mono (by decide)
    refine ⟨_, pss_cons (ps_expr (pe_call GR hr2 rfl mR kR bR .nil (D.passes fun _ _ _ z => z) (pac (pv 1) pa_nil)))
      (pss_cons (ps_fld (pv 0) (pe_freeze (pe_call GW hr1 rfl mW kW bW .nil pass0 (pac (pv 1) pa_nil))) rfl)
      (pss_cut (fun σ H' => ∃ b d o ss', σ = [some (.ref x), some (.ref a), some y, some (.ref b)] ∧ H' x = some (.ins C dx [("weights", .ref d)]) ∧ H' d = some (.frz o (.dK (wts ss' 1 []))) ∧ SameBut x H H' ∧ SqL K H' b (fs.map V.str) ∧ ss'.Perm ss ∧ PyProof.Rows.sortedS ss' = true)
        (ps_set (i := 3) scI.nd rfl (Or.inl rfl) (pe_ifExp (pt_cmpR op_isN (pv 2) pe_non (nomark _)) (pe_lst pa_nil) (pv 2)))
      (pss_cons (ps_expr (pe_meth (pv 0) DC.cl mQ GQ hr bQ .nil (D.passes fun _ _ _ z => z) (pac (pv 3) pa_nil)))
      (pss_one (ps_fld (pv 0) (pe_call GK hr1 rfl mK kK bK .nil pass0 (pac (pv 3) pa_nil)) rfl))))), ?_⟩
    refine ⟨_, rfl, a, ss, rfl, hA, hsh, fun H1 s1 => ?_⟩
    have sb : ∀ {H'}, Same H H' → SameBut x H H' := fun sm b o _ e => sm b o e
    cases hR : refused ss with
    | some k =>
      have := q H1 (sb s1)
      unfold deedsErr at this
      rw [hR] at this
      exact this
    | none =>
      have h12 : ss.length ≤ 12 := by
        unfold refused at hR
        by_cases z : 12 < ss.length
        · rw [if_pos z] at hR; cases hR
        · omega
      refine ⟨_, rfl, a, ss, rfl, s1.seq hA, by omega, fun d ss' H2 s2 hd pm so hd2 => ⟨d, _, rfl, hd2, fun o => ?_⟩⟩
      have hx2 := s2 x _ (s1 x _ hx)
      have ndx : d ≠ x := fun z => by rw [z, hx2] at hd2; cases hd2
      have hx2' : (upd H2 d (.frz o (.dK (wts ss' 1 [])))) x = some (.ins C dx []) := by rw [upd_ne (Ne.symm ndx)]; exact hx2
      refine ⟨_, rfl, x, C, dx, [], rfl, hx2', DC.cl, DC.nw, by decide, ?_⟩
      generalize hH3 : upd (upd H2 d (.frz o (.dK (wts ss' 1 [])))) x (.ins C dx (putF "weights" (.ref d) [])) = H3
      have hx3 : H3 x = some (.ins C dx [("weights", .ref d)]) := by rw [← hH3, upd_same]; rfl
      have hd3 : H3 d = some (.frz o (.dK (wts ss' 1 []))) := by rw [← hH3, upd_ne ndx, upd_same]
      have hHd : H d = none := by
        cases e : H d with
        | none => rfl
        | some u => rw [s1 d u e] at hd; cases hd
      have s3 : SameBut x H H3 := fun b o n e => by rw [← hH3, upd_ne n, upd_ne (ne_of_none e hHd)]; exact s2 b o (s1 b o e)
      have hB3 : (y = .non ∧ fs = []) ∨ ∃ b, y = .ref b ∧ SqL K H3 b (fs.map V.str) := hB.imp id fun ⟨b, e, h⟩ => ⟨b, e, seqBut s3 hx h⟩
      refine ⟨?_, ?_⟩
      · rcases hB3 with ⟨rfl, rfl⟩ | ⟨b, rfl, hB3⟩
        · refine ⟨_, rfl, rfl, _, rfl, ite2 (fun _ => ⟨by show 0 ≤ sizeLine; decide, fun l hl => ⟨l, d, o, ss', rfl, ?_, ?_, ?_, SqL.of upd_same, pm, so⟩⟩) fun z => absurd (decide_eq_true rfl) z⟩
          · rw [upd_ne (ne_of_none hx3 hl)]; exact hx3
          · rw [upd_ne (ne_of_none hd3 hl)]; exact hd3
          · exact fun c u n e => by rw [upd_ne (ne_of_none (s3 c u n e) hl)]; exact s3 c u n e
        · exact ⟨_, rfl, rfl, _, rfl, ite2 (fun z => absurd (of_decide_eq_true z) (by intro z; cases z)) fun _ => ⟨_, rfl, b, d, o, ss', rfl, hx3, hd3, s3, hB3, pm, so⟩⟩
      clear hB3 hd3 hx3 s3 hH3 H3 hx2' hx2 ndx hd2
      rintro σ H3 ⟨b, d, o, ss', rfl, hx3, hd3, s3, hB3, pm, so⟩
      have e4 : ∀ z, (valV (wts ss' 1 []) (Sum.inr z)).isSome = decide (z ∈ ss) := fun z => by
        rw [valV_wts]
        simp [valV, pm.mem_iff]
      refine ⟨_, rfl, x, dx, _, rfl, hx3, by rfl, _, rfl, x, b, fs.map V.str, _, rfl, hB3, thing_str hfh, ⟨dx, _, d, o, hx3, noW _, by rfl, hd3⟩, fun H4 s4 => ?_⟩
      have s4' : SameBut x H H4 := fun b o n e => s4 b o (s3 b o n e)
      rw [all_good]
      simp only [e4]
      have q4 := q
      unfold deedsErr at q4
      rw [hR] at q4
      have ndx : d ≠ x := fun z => by rw [z, hx3] at hd3; cases hd3
      by_cases hall : fs.all (fun f => isNameS f && decide (f ∈ ss)) = true
      · simp only [if_pos hall] at q4 ⊢
        refine ⟨_, rfl, b, fs, rfl, s4.seq hB3, hfl, fun df H5 s5 hdf hdf5 => ?_⟩
        have hx5 := s5 x _ (s4 x _ hx3)
        have ndf : df ≠ x := fun z => by rw [z, hx5] at hdf5; cases hdf5
        refine ⟨_, rfl, x, C, dx, _, rfl, hx5, DC.cl, DC.nf, by show 1 < 1000; decide, ?_⟩
        refine q4 _ (fun b o n e => by rw [upd_ne n]; exact s5 b o (s4' b o n e)) d df o ss' (by rw [upd_same]; rfl) (by rw [upd_ne ndx]; exact s5 d _ (s4 d _ hd3)) (by rw [upd_ne ndf]; exact hdf5) pm so
      · simp only [if_neg hall] at q4 ⊢
        exact q4 H4 s4'
end
end K32
namespace K32
open PySem L2 Ky
seal L2.PE L2.PS L2.PSs L2.PA L2.PT L2.PW L2.PG L2.PI L2.PTs L2.PO L2.OpR L2.IxR L2.CallR L2.MtM L2.MtR
noncomputable abbrev some12 : List Str := ["go", "a", "b1", "stop", "r0", "r1", "open", "x", "yy", "z9", "longname", "c"]
noncomputable def stepOf (c : Int) : Int := ([1, 5, 7, 11] : List Int).getD (c / 12 % 4).toNat 1
noncomputable def nameAt (c : Int) (k : Nat) : Str := some12.getD ((c + stepOf c * k) % 12).toNat ""
noncomputable def namesBy (c : Int) (n : Nat) : List Str := (List.range n).map (nameAt c)
noncomputable def manyOf (c : Int) : Nat := if c / 8 % 16 = 1 then (c / 128 % 2).toNat else ([2, 3, 3, 4, 4, 5, 6, 12] : List Nat).getD (c % 8).toNat 0
noncomputable def freeBy (c : Int) (ss : List Str) : List Str := (List.range ss.length).filterMap fun (k : Nat) => if RW.mixed c (k : Nat) % 4 = 1 then ss[k]? else none
theorem atI_getD {α β : Type} (f : α → β) (xs : List α) (d : α) {i : Int} (h0 : 0 ≤ i) (h1 : i < xs.length) : atI (xs.map f) i = some (f (xs.getD i.toNat d)) := by
  have hl : i.toNat < xs.length := by omega
  have e : i = (i.toNat : Int) := by omega
  have h := atI_nat (xs := xs.map f) (j := i.toNat) (v := f (xs.getD i.toNat d)) (by rw [List.getElem?_map, List.getD_eq_getElem?_getD, List.getElem?_eq_getElem hl]; rfl)
  rw [← e] at h
  exact h
theorem emod_in (c : Int) {m : Int} (h : 0 < m) : 0 ≤ c % m ∧ c % m < m := ⟨Int.emod_nonneg _ (by omega), Int.emod_lt_of_pos _ h⟩
theorem step_all : ∀ n, n < 4 → ([1, 5, 7, 11] : List Int).getD n 1 = 1 ∨ ([1, 5, 7, 11] : List Int).getD n 1 = 5 ∨ ([1, 5, 7, 11] : List Int).getD n 1 = 7 ∨ ([1, 5, 7, 11] : List Int).getD n 1 = 11 := by decide +kernel
theorem stepOf_cases (c : Int) : stepOf c = 1 ∨ stepOf c = 5 ∨ stepOf c = 7 ∨ stepOf c = 11 := by
  have h := emod_in (c / 12) (m := 4) (by decide)
  exact step_all _ (by omega)
theorem many_all : ∀ n, n < 8 → ([2, 3, 3, 4, 4, 5, 6, 12] : List Nat).getD n 0 ≤ 12 ∧ (([2, 3, 3, 4, 4, 5, 6, 12] : List Int).getD n 0) = ((([2, 3, 3, 4, 4, 5, 6, 12] : List Nat).getD n 0 : Nat) : Int) := by decide +kernel
theorem many_list (c : Int) : ([2, 3, 3, 4, 4, 5, 6, 12] : List Nat).getD (c % 8).toNat 0 ≤ 12 ∧ (([2, 3, 3, 4, 4, 5, 6, 12] : List Int).getD (c % 8).toNat 0) = ((([2, 3, 3, 4, 4, 5, 6, 12] : List Nat).getD (c % 8).toNat 0 : Nat) : Int) := by
  have h := emod_in c (m := 8) (by decide)
  exact many_all _ (by omega)
theorem manyOf_le (c : Int) : manyOf c ≤ 12 := by
  unfold manyOf
  split
  · have h := emod_in (c / 128) (m := 2) (by decide)
    omega
  · exact (many_list c).1
noncomputable def freeUp (c : Int) (ss : List Str) (i : Nat) : List Str := (List.range i).filterMap fun (k : Nat) => if RW.mixed c (k : Nat) % 4 = 1 then ss[k]? else none
inductive spNamesBy (K : PySem.W.Frag) (vs : List V) (H : Hp) (Q : VK) (x3_ : XK) : Prop
  | mk (c : Int) (n : Nat) (h0_ : vs = [.int c, .int n]) (h1_ : n ≤ 1000) (h2_ : ∀ (l : Addr) H', Same H H' → H l = none → H' l = some (.lst ((namesBy c n).map V.str)) → Q (.ref l) H')
inductive spDeedsBy (K : PySem.W.Frag) (vs : List V) (H : Hp) (Q : VK) (x3_ : XK) : Prop
  | mk (c : Int) (h0_ : vs = [.int c]) (h1_ : ∀ (t l m : Addr) H', Same H H' → H' t = some (.tup [.ref l, .ref m]) → H' l = some (.lst ((namesBy (c / 256) (manyOf c)).map V.str)) → H' m = some (.lst ((freeBy c (namesBy (c / 256) (manyOf c))).map V.str)) → Q (.ref t) H')
section
variable {P : Program} {w : World} {K : PySem.W.Frag} {mg : Str → Option Value} {base : Heap}
noncomputable abbrev NB : List Str := ["_law_cell", "_law_many", "_law_some", "_law_step"]
theorem scB : FnScope NB ["_law_cell", "_law_many"] (defScope sNamesBy) := ⟨rfl, rfl, rfl, by decide +kernel, rfl, by decide +kernel, by decide +kernel⟩
theorem ok_namesBy {f : Addr} {fd : FuncData} (F : Fun K "_law_names_by" "_law_names_by" sNamesBy f fd) (T : Txt K mg) : FnOk P w K mg base CX0 1 f fd ["_law_cell", "_law_many"] (spNamesBy K) := by
  refine F.ok scB (fun vs H Q E h => ?_) (fun cdv A outer s H vs Q E hr h => ?_)
  · obtain ⟨c, n, rfl, _⟩ := h
    rfl
  · obtain ⟨c, n, rfl, hn, q⟩ := h
    refine ⟨_, pss_cons (ps_set (i := 2) scB.nd rfl (Or.inr rfl) (pe_lst (pac pe_str (pac pe_str (pac pe_str (pac pe_str (pac pe_str (pac pe_str (pac pe_str (pac pe_str (pac pe_str (pac pe_str (pac pe_str (pac pe_str pa_nil))))))))))))))
      (pss_cons (ps_set (i := 3) scB.nd rfl (Or.inr rfl) (pe_ix ix_list (pe_lst (pac pe_int (pac pe_int (pac pe_int (pac pe_int pa_nil))))) (pe_op op_mod (pe_op op_fdiv (pv 0) pe_int) pe_int) (fun _ _ => rfl)))
      (pss_one (ps_ret (pe_comp (N' := ["_law_k", "_law_some", "_law_cell", "_law_step"]) (nown := 1) (js := [2, 0, 3]) rfl
          ⟨rfl, by decide +kernel, by decide +kernel⟩ (blkNames (defScope sNamesBy) NB rfl rfl (by decide +kernel))
          ⟨fun _ _ _ _ => pg_name (i := 0) (show List.Nodup (["_law_k", "_law_some", "_law_cell", "_law_step"] : List Str) by decide +kernel) rfl (Or.inl rfl) (.inr rfl), fun _ _ _ _ => pts_nil,
            fun _ _ _ _ => pe_ix (show IxR _ (rIxL K) from ix_list) (pv 1) (pe_op op_mod (pe_op op_add (pv 2) (pe_op op_mul (pv 3) (pv 0))) pe_int) (fun _ _ => rfl)⟩
          (pi_range1 rfl T.range (pac (pv 1) pa_nil)))))), ?_⟩
    have sl : sizeLine = 16777216 := sizeLine_eq
    have g4 := emod_in (c / 12) (m := 4) (by decide)
    refine ⟨by show 12 ≤ sizeLine; decide, fun p hp => ⟨by show 4 ≤ sizeLine; decide, fun p2 hp2 => ⟨_, rfl, _, _, rfl, rfl, ⟨by decide, by decide⟩, _, _, rfl, rfl, (by show (0 : Int) < 4; decide), p2, _, _, V.int (stepOf c), rfl, rfl, SqL.of upd_same, atI_getD V.int [1, 5, 7, 11] 1 g4.1 g4.2, ?_⟩⟩⟩
    have n12 : p ≠ p2 := ne_of_none upd_same hp2
    generalize hH2 : upd (upd H p _) p2 _ = H2
    have e2 : H2 p = some (.lst (some12.map V.str)) := by rw [← hH2, upd_ne n12, upd_same]; rfl
    have s2 : Same H H2 := fun b o e => by
      have m1 : b ≠ p := ne_of_none e hp
      have m2 : b ≠ p2 := ne_of_none (show (upd H p _) b = some o by rw [upd_ne m1]; exact e) hp2
      rw [← hH2, upd_ne m2, upd_ne m1]
      exact e
    refine ⟨_, rfl, n, rfl, by omega, by omega, fun D hD => blk_range (n := n) (fun i σ' H' => ∃ v, σ' = [v, some (.ref p), some (.int c), some (.int (stepOf c))] ∧ H' D = some (.lst ((namesBy c i).map V.str)) ∧ Same H2 H') ?_ ?_ ?_⟩
    · exact ⟨none, rfl, upd_same, fun b o e => by rw [upd_ne (ne_of_none e hD)]; exact e⟩
    · rintro i σ' H' hi ⟨v, rfl, hl', sm⟩
      have g12 := emod_in (c + stepOf c * (0 + (i : Int))) (m := 12) (by decide)
      refine ⟨_, rfl, _, rfl, _, rfl, _, rfl, _, _, rfl, rfl, .inl ?_, _, _, rfl, rfl, _, _, rfl, rfl, (by show (0 : Int) < 12; decide), p, _, _, V.str (nameAt c i), rfl, rfl, SqL.of (sm p _ e2), ?_, _, hl', ?_, _, rfl, ?_, ?_⟩
      · rcases stepOf_cases c with h | h | h | h <;> (rw [h]; exact ⟨by decide, by decide⟩)
      · have h := atI_getD V.str some12 "" g12.1 g12.2
        rw [h, Int.zero_add]
        rfl
      · refine small1000 ?_
        rw [List.length_map]
        unfold namesBy
        rw [List.length_map, List.length_range]
        omega
      · rw [upd_same]
        unfold namesBy
        rw [List.range_succ, List.map_append, List.map_append]
        rfl
      · intro b o e
        rw [upd_ne (ne_of_none e hD)]
        exact sm b o e
    · rintro σ' H' ⟨v, rfl, hl', sm⟩
      refine q D H' (s2.trans sm) ?_ hl'
      exact s2.free hD
noncomputable abbrev ND : List Str := ["_law_cell", "_law_many", "_law_names"]
theorem scD : FnScope ND ["_law_cell"] (defScope sDeedsBy) := ⟨rfl, rfl, rfl, by decide +kernel, rfl, by decide +kernel, by decide +kernel⟩
theorem ok_deedsBy {f fM fB : Addr} {fd fdM fdB : FuncData} (F : Fun K "_law_deeds_by" "_law_deeds_by" sDeedsBy f fd) (T : Txt K mg)
    (FM : Fun K "_law_mixed" "_law_mixed" sMixed fM fdM) (bM : Binds K fdM ["_law_cell", "_law_k"] []) (mM : mg "_law_mixed" = some (.ref fM))
    (FB : Fun K "_law_names_by" "_law_names_by" sNamesBy fB fdB) (bB : Binds K fdB ["_law_cell", "_law_many"] []) (mB : mg "_law_names_by" = some (.ref fB)) : FnOk P w K mg base CX0 2 f fd ["_law_cell"] (spDeedsBy K) := by
  have GM : FnOk P w K mg base CX0 1 fM fdM ["_law_cell", "_law_k"] spMixed := ok_mixed FM
  have GB : FnOk P w K mg base CX0 1 fB fdB ["_law_cell", "_law_many"] (spNamesBy K) := ok_namesBy FB T
  refine F.ok scD (fun vs H Q E h => ?_) (fun cdv A outer s H vs Q E hr h => ?_)
  · obtain ⟨c, rfl, _⟩ := h
    rfl
  · obtain ⟨c, rfl, q⟩ := h
    refine ⟨_, pss_cons (ps_set (i := 1) scD.nd rfl (Or.inl rfl) (pe_ix ix_list (pe_lst (pac pe_int (pac pe_int (pac pe_int (pac pe_int (pac pe_int (pac pe_int (pac pe_int (pac pe_int pa_nil))))))))) (pe_op op_mod (pv 0) pe_int) (fun _ _ => rfl)))
      (pss_cut (fun σ H' => σ = [some (.int c), some (.int (manyOf c)), none] ∧ Same H H')
        (ps_if (pt_cmpR op_eq (pe_op op_mod (pe_op op_fdiv (pv 0) pe_int) pe_int) pe_int (nomark _))
          (pss_one (ps_set (i := 1) scD.nd rfl (Or.inl rfl) (pe_op op_mod (pe_op op_fdiv (pv 0) pe_int) pe_int))) pss_nil)
      (pss_cons (ps_set (i := 2) scD.nd rfl (Or.inl rfl) (pe_call GB hr rfl mB FB.kp bB .nil pass0 (pac (pe_op op_fdiv (pv 0) pe_int) (pac (pv 1) pa_nil))))
      (pss_one (ps_ret (pe_tup (pac (pv 2) (pac (pe_comp (N' := ["_law_k", "_law_name", "_law_cell"]) (nown := 2) (js := [0]) rfl
          ⟨rfl, by decide +kernel, by decide +kernel⟩ (blkNames (defScope sDeedsBy) ND rfl rfl (by decide +kernel))
          ⟨fun _ _ _ _ => show PG _ _ (gTup K 2 (gCons (gName 0) (gCons (gName 1) gNil))) from pg_tup rfl (pgs_cons (pg_name (i := 0) (show List.Nodup (["_law_k", "_law_name", "_law_cell"] : List Str) by decide +kernel) rfl (Or.inl rfl) (.inr rfl)) (pgs_cons (pg_name (i := 1) (show List.Nodup (["_law_k", "_law_name", "_law_cell"] : List Str) by decide +kernel) rfl (Or.inl rfl) (.inr rfl)) pgs_nil)),
            fun _ _ _ _ => pts_one (pt_cmpR op_eq (pe_op op_mod (pe_call GM hr rfl mM FM.kp bM .nil pass0 (pac (pv 2) (pac (pv 0) pa_nil))) pe_int) pe_int (nomark _)),
            fun _ _ _ _ => pv 1⟩
          (pi_enum rfl T.enum (pac (pv 2) pa_nil))) pa_nil))))))), ?_⟩
    have sl : sizeLine = 16777216 := sizeLine_eq
    have g8 := emod_in c (m := 8) (by decide)
    refine ⟨by show 8 ≤ sizeLine; decide, fun p hp => ⟨_, rfl, _, _, rfl, rfl, (by show (0 : Int) < 8; decide), p, _, _, V.int _, rfl, rfl, SqL.of upd_same, atI_getD V.int [2, 3, 3, 4, 4, 5, 6, 12] 0 g8.1 g8.2, ?_, ?_⟩⟩
    · have s1 : ∀ o, Same H (upd H p o) := fun o b u e => by rw [upd_ne (ne_of_none e hp)]; exact e
      refine ⟨_, rfl, _, _, rfl, rfl, ⟨by decide, by decide⟩, _, _, rfl, rfl, (by show (0 : Int) < 16; decide), rfl, _, rfl, ite2 (fun h1 => ?_) (fun h1 => ?_)⟩
      · have e1 : c / 8 % 16 = 1 := by have := of_decide_eq_true h1; exact V.int.inj this
        have g2 := emod_in (c / 128) (m := 2) (by decide)
        refine ⟨_, rfl, _, _, rfl, rfl, ⟨by decide, by decide⟩, _, _, rfl, rfl, (by show (0 : Int) < 2; decide), ?_, s1 _⟩
        have e : ((manyOf c : Nat) : Int) = c / 128 % 2 := by unfold manyOf; rw [if_pos e1]; omega
        rw [e]
        rfl
      · have e1 : ¬ c / 8 % 16 = 1 := fun z => h1 (decide_eq_true (congrArg V.int z))
        refine ⟨?_, s1 _⟩
        have e : ((manyOf c : Nat) : Int) = ([2, 3, 3, 4, 4, 5, 6, 12] : List Int).getD (c % 8).toNat 0 := by unfold manyOf; rw [if_neg e1]; exact (many_list c).2.symm
        rw [e]
        rfl
    · rintro σ H1 ⟨rfl, s1⟩
      refine ⟨_, rfl, _, _, rfl, rfl, ⟨by decide, by decide⟩, _, rfl, c / 256, manyOf c, rfl, Nat.le_trans (manyOf_le c) (by decide), fun l H2 s2 hl hl2 => ?_⟩
      generalize hss : namesBy (c / 256) (manyOf c) = ss at *
      have hlen : ss.length = manyOf c := by rw [← hss]; unfold namesBy; rw [List.length_map, List.length_range]
      have hle := manyOf_le c
      refine ⟨_, rfl, _, rfl, l, rfl, ⟨_, SqL.of hl2⟩, fun D hD => blk_enum (xs := ss.map V.str) (fun i σ' H' => ∃ v0 v1, σ' = [v0, v1, some (.int c)] ∧ H' D = some (.lst ((freeUp c ss i).map V.str)) ∧ Same H2 H' ∧ (freeUp c ss i).length ≤ i) ?_ ?_ ?_ ?_⟩
      · exact ⟨none, none, rfl, upd_same, fun b o e => by rw [upd_ne (ne_of_none e hD)]; exact e, Nat.le_refl _⟩
      · rintro i σ' H' _ ⟨v0, v1, rfl, h1, h2, h3⟩
        exact SqL.of (h2 l _ hl2)
      · rintro i x σ' H' t hx ⟨v0, v1, rfl, h1, h2, h3⟩ ht
        rw [List.getElem?_map] at hx
        cases hz : ss[i]? with
        | none => rw [hz] at hx; cases hx
        | some z =>
          rw [hz] at hx
          cases hx
          have hi : i < ss.length := (List.getElem?_eq_some_iff.mp hz).1
          have nD : D ≠ t := fun e => by rw [e, ht] at h1; cases h1
          have sT : Same H2 (upd H' t (.tup [.int i, .str z])) := fun b o e => by rw [upd_ne (ne_of_none (h2 b o e) ht)]; exact h2 b o e
          refine ⟨t, _, rfl, SqT.of upd_same, rfl, _, _, rfl, _, _, rfl, rfl, _, rfl, _, rfl, c, i, rfl, _, _, rfl, rfl, (by show (0 : Int) < 4; decide), rfl, _, rfl, ite2 (fun h4 => ?_) (fun h4 => ?_)⟩
          · have e4 : RW.mixed c i % 4 = 1 := by have := of_decide_eq_true h4; exact V.int.inj this
            have eu : freeUp c ss (i + 1) = freeUp c ss i ++ [z] := by
              unfold freeUp
              rw [List.range_succ, List.filterMap_append]
              simp [e4, hz]
            refine ⟨_, rfl, _, by rw [upd_ne nD]; exact h1, small1000 (by rw [List.length_map]; omega), some (.int i), some (.str z), rfl, ?_, ?_, ?_⟩
            · rw [upd_same, eu, List.map_append]
              rfl
            · intro b o e
              rw [upd_ne (ne_of_none e hD)]
              exact sT b o e
            · rw [eu, List.length_append]
              show _ + 1 ≤ _
              omega
          · have e4 : ¬ RW.mixed c i % 4 = 1 := fun z => h4 (decide_eq_true (congrArg V.int z))
            have eu : freeUp c ss (i + 1) = freeUp c ss i := by
              unfold freeUp
              rw [List.range_succ, List.filterMap_append]
              simp [e4]
            refine ⟨some (.int i), some (.str z), rfl, ?_, sT, by rw [eu]; omega⟩
            rw [upd_ne nD, eu]
            exact h1
      · rintro σ' H' ⟨v0, v1, rfl, h1, h2, h3⟩
        refine ⟨by show 2 ≤ sizeLine; decide, fun t ht => ?_⟩
        rw [List.length_map] at h1
        have sT : ∀ o, Same H' (upd H' t o) := fun o b u e => by rw [upd_ne (ne_of_none e ht)]; exact e
        exact q t l D _ (((s1.trans s2).trans h2).trans (sT _)) upd_same (sT _ _ _ (h2 l _ hl2)) (sT _ _ _ h1)
end
end K32
namespace K32
open PySem L2 Ky
seal L2.PE L2.PS L2.PSs L2.PA L2.PT L2.PW L2.PG L2.PI L2.PTs L2.PO L2.OpR L2.IxR L2.CallR L2.MtM L2.MtR
noncomputable def nameR (r s k : Nat) : Str := some12.getD ((r + s * k) % 12) ""
theorem modR (c : Int) (m : Nat) : ((c + (m : Int)) % 12).toNat = ((c % 12).toNat + m) % 12 := by
  have h := emod_in c (m := 12) (by decide)
  have e : c % 12 = ((c % 12).toNat : Int) := (Int.toNat_of_nonneg h.1).symm
  generalize (c % 12).toNat = r at e
  rw [← Int.emod_add_emod, e, ← Int.natCast_add]
  exact congrArg Int.toNat (Int.natCast_emod (r + m) 12).symm
theorem nameAt_R (c : Int) (k : Nat) : nameAt c k = nameR (c % 12).toNat (stepOf c).toNat k := by
  unfold nameAt nameR
  congr 1
  rcases stepOf_cases c with e | e | e | e
  · rw [e]
    exact modR c (1 * k)
  · rw [e]
    exact modR c (5 * k)
  · rw [e]
    exact modR c (7 * k)
  · rw [e]
    exact modR c (11 * k)
theorem len1 {α : Type} {p : List α → Prop} (h : ∀ a, p [a]) : ∀ us : List α, us.length = 1 → p us
  | [a], _ => h a
theorem len2 {α : Type} {p : List α → Prop} (h : ∀ a b, p [a, b]) : ∀ us : List α, us.length = 2 → p us
  | [a, b], _ => h a b
theorem len3 {α : Type} {p : List α → Prop} (h : ∀ a b c, p [a, b, c]) : ∀ us : List α, us.length = 3 → p us
  | [a, b, c], _ => h a b c
theorem nodupR : ∀ r, r < 12 → ∀ s ∈ ([1, 5, 7, 11] : List Nat), ((List.range 12).map (nameR r s)).Nodup := by decide +kernel
theorem some_names : ∀ z ∈ some12, isNameS z = true := by decide +kernel
theorem nameAt_mem (c : Int) (k : Nat) : nameAt c k ∈ some12 := by
  unfold nameAt
  have h := emod_in (c + stepOf c * k) (m := 12) (by decide)
  have hl : ((c + stepOf c * k) % 12).toNat < some12.length := by show _ < 12; omega
  rw [List.getD_eq_getElem?_getD, List.getElem?_eq_getElem hl]
  exact List.getElem_mem hl
theorem namesBy_mem {c : Int} {n : Nat} {z : Str} (h : z ∈ namesBy c n) : z ∈ some12 := by
  obtain ⟨k, _, rfl⟩ := List.mem_map.mp h
  exact nameAt_mem c k
theorem namesBy_nodup (c : Int) {n : Nat} (hn : n ≤ 12) : (namesBy c n).Nodup := by
  have h := emod_in c (m := 12) (by decide)
  have hs : (stepOf c).toNat ∈ ([1, 5, 7, 11] : List Nat) := by rcases stepOf_cases c with e | e | e | e <;> rw [e] <;> decide
  have hN := nodupR (c % 12).toNat (by omega) _ hs
  have e : namesBy c n = ((List.range 12).map (nameR (c % 12).toNat (stepOf c).toNat)).take n := by
    unfold namesBy
    rw [← List.map_take, List.take_range, Nat.min_eq_left hn]
    exact List.map_congr_left fun k _ => nameAt_R c k
  rw [e]
  exact hN.sublist (List.take_sublist n _)
theorem scan_pre : ∀ (pre seen suf : List Str), (∀ z ∈ pre, isNameS z = true) → (seen ++ pre).Nodup → scan seen (pre ++ suf) = scan (seen ++ pre) suf
  | [], seen, suf, _, _ => by simp
  | z :: r, seen, suf, h, hn => by
    show (if isNameS z = true then (if z ∈ seen then some Why.twice else scan (seen ++ [z]) (r ++ suf)) else some .noName) = _
    have hz : z ∉ seen := fun m => by
      have := (List.nodup_append.mp hn).2.2 z m z (List.mem_cons_self ..)
      exact this rfl
    rw [if_pos (h z (List.mem_cons_self ..)), if_neg hz, scan_pre r (seen ++ [z]) suf (fun y hy => h y (List.mem_cons_of_mem _ hy)) (by simpa using hn)]
    simp
theorem refused_ok {ss : List Str} (h : ss.length ≤ 12) (hn : ∀ z ∈ ss, isNameS z = true) (hd : ss.Nodup) : refused ss = none := by
  unfold refused
  rw [if_neg (by omega)]
  have := scan_pre ss [] [] hn (by simpa using hd)
  rw [List.append_nil] at this
  rw [this]
  rfl
theorem freeBy_sub {c : Int} {ss : List Str} {z : Str} (h : z ∈ freeBy c ss) : z ∈ ss := by
  unfold freeBy at h
  obtain ⟨k, _, e⟩ := List.mem_filterMap.mp h
  split at e
  · exact List.mem_of_getElem? e
  · cases e
theorem freeBy_len (c : Int) (ss : List Str) : (freeBy c ss).length ≤ ss.length := by
  unfold freeBy
  exact Nat.le_trans (List.length_filterMap_le ..) (by rw [List.length_range]; exact Nat.le_refl _)
theorem deeds_ok {ss fs : List Str} (h : ss.length ≤ 12) (hn : ∀ z ∈ ss, isNameS z = true) (hd : ss.Nodup) (hf : ∀ z ∈ fs, z ∈ ss) : deedsErr ss fs = none := by
  unfold deedsErr
  rw [refused_ok h hn hd]
  exact if_pos (List.all_eq_true.mpr fun z hz => by rw [hn z (hf z hz), decide_eq_true (hf z hz)]; rfl)
end K32
namespace K32
open PySem L2 Ky
seal L2.PE L2.PS L2.PSs L2.PA L2.PT L2.PW L2.PG L2.PI L2.PTs L2.PO L2.OpR L2.IxR L2.CallR L2.MtM L2.MtR
unseal L2.MtM L2.MtR
section
variable {P : Program} {w : World} {K : PySem.W.Frag} {mg : Str → Option Value} {base : Heap}
theorem scNR : FnScope ["begin", "ends", "doors", "rooms", "room", "deed", "far"] ["begin", "ends", "doors"] (defScope sNamed) := ⟨rfl, rfl, rfl, by decide +kernel, rfl, by decide +kernel, by decide +kernel⟩
theorem ok_named {f : Addr} {fd : FuncData} (F : Fun K "named_rooms" "named_rooms" sNamed f fd) : FnOk P w K mg base CX0 1 f fd ["begin", "ends", "doors"] spNamed := by
  refine F.ok scNR (fun vs H Q E h => ?_) (fun cdv A outer s H vs Q E hr h => ?_)
  · obtain ⟨b, e, d, es, ds, rfl, _⟩ := h
    rfl
  · obtain ⟨b, e, d, es, ds, rfl, hE, hD, hle, hld, q⟩ := h
    refine ⟨_, pss_cons (ps_set (i := 3) scNR.nd rfl (Or.inl rfl) (pe_lst (pac (pv 0) pa_nil)))
      (pss_cons (ps_expr (pe_bm PySem.F.plainAttrs_list PySem.F.slot_list_extend PySem.F.type_list_extend mt_extend (pv 3) (pac (pv 1) pa_nil)))
      (pss_cons (ps_for PassesOwn.never rfl (pi_list (pv 2)) (pg_tup rfl (pgs_cons (pg_name (i := 4) scNR.nd rfl (Or.inl rfl)) (pgs_cons (pg_name (i := 5) scNR.nd rfl (Or.inl rfl)) (pgs_cons (pg_name (i := 6) scNR.nd rfl (Or.inl rfl)) pgs_nil))))
        (pss_cons (ps_expr (pe_bm PySem.F.plainAttrs_list PySem.F.slot_list_append PySem.F.type_list_append mt_append (pv 3) (pac (pv 4) pa_nil)))
        (pss_one (ps_expr (pe_bm PySem.F.plainAttrs_list PySem.F.slot_list_append PySem.F.type_list_append mt_append (pv 3) (pac (pv 6) pa_nil))))))
      (pss_one (ps_ret (pv 3))))), ?_⟩
    obtain ⟨ts, hd, htl, htt⟩ := hD.ex
    refine ⟨_, rfl, by show 1 ≤ sizeLine; decide, fun p hp => ⟨_, rfl, .inl ⟨rfl, _, SqL.of upd_same⟩, _, rfl, p, e, _, _, rfl, rfl, upd_same, smu hp _ _ hE, small2 (by rw [List.length_map]; show 1 + _ ≤ _; omega), ?_⟩⟩
    have s0 : Same H _ := smu (o := .lst [.str b]) hp
    have s1 : ∀ ys, Same H (upd (upd H p (.lst [.str b])) p (.lst ys)) := fun ys c o h => by rw [upd_ne (ne_of_none h hp)]; exact s0 c o h
    refine ⟨_, rfl, d, rfl, ⟨_, SqL.of (s1 _ _ _ hd)⟩, ?_⟩
    refine for_list (xs := ts.map V.ref) (fun i σ H' => ∃ x4 x5 x6, σ = [some (.str b), some (.ref e), some (.ref d), some (.ref p), x4, x5, x6] ∧ H' p = some (.lst ((b :: es ++ doorRooms (ds.take i)).map V.str)) ∧ Same H H') ?_ ?_ ?_ ?_
    · refine ⟨none, none, none, rfl, ?_, s1 _⟩
      rw [upd_same]
      show some (HO.lst ([V.str b] ++ es.map V.str)) = some (HO.lst ((b :: es ++ []).map V.str))
      rw [List.append_nil]
      rfl
    · rintro i σ H' _ ⟨x4, x5, x6, rfl, h1, h2⟩
      exact SqL.of (h2 _ _ hd)
    · rintro i x σ H' hx ⟨x4, x5, x6, rfl, h1, h2⟩
      rw [List.getElem?_map] at hx
      cases ht : ts[i]? with
      | none => rw [ht] at hx; cases hx
      | some t =>
        rw [ht] at hx
        cases hx
        have hi : i < ds.length := by rw [← htl]; exact (List.getElem?_eq_some_iff.mp ht).1
        have hz : ds[i]? = some ds[i] := List.getElem?_eq_getElem hi
        generalize ds[i] = z at hz
        have e1 := doorRooms_take hz
        have hl : (doorRooms (ds.take i)).length ≤ 2000 := by rw [doorRooms_len, List.length_take]; omega
        refine ⟨t, _, rfl, SqT.of (h2 _ _ (htt i t z ht hz)), rfl, _, _, rfl, _, _, rfl, _, _, rfl, rfl, ?_⟩
        refine ⟨_, rfl, .inl ⟨rfl, _, SqL.of h1⟩, _, rfl, p, _, _, rfl, rfl, h1, ?_, ?_⟩
        · rw [List.length_map, List.length_append, List.length_cons]
          exact Nat.lt_of_le_of_lt (m := 3001) (by omega) (by decide)
        refine ⟨_, rfl, .inl ⟨rfl, _, SqL.of upd_same⟩, _, rfl, p, _, _, rfl, rfl, upd_same, ?_, ?_⟩
        · rw [List.length_append, List.length_map, List.length_append, List.length_cons]
          exact Nat.lt_of_le_of_lt (m := 3002) (by show _ + 1 ≤ _; omega) (by decide)
        refine ⟨_, _, _, rfl, ?_, fun c o h => ?_⟩
        · rw [upd_same, e1]
          simp
        · rw [upd_ne (ne_of_none h hp), upd_ne (ne_of_none h hp)]
          exact h2 c o h
    · rintro σ H' ⟨x4, x5, x6, rfl, h1, h2⟩
      rw [List.length_map, htl, List.take_length] at h1
      exact ⟨_, rfl, q p H' h2 hp h1⟩
end
theorem scRR : FnScope ["rooms", "room"] ["rooms"] (defScope sRefRooms) := ⟨rfl, rfl, rfl, by decide +kernel, rfl, by decide +kernel, by decide +kernel⟩
section
variable {P : Program} {w : World} {K : PySem.W.Frag} {mg : Str → Option Value} {base : Heap}
theorem ok_refRooms {f fN : Addr} {fd fdN : FuncData} {cl : Why → Addr} (F : Fun K "refuse_rooms" "refuse_rooms" sRefRooms f fd) (T : Txt K mg) (Ex : Exc K mg cl)
    (FN : Fun K "is_name" "is_name" sName fN fdN) (bN : Binds K fdN ["thing"] []) (mN : mg "is_name" = some (.ref fN)) :
    FnOk P w K mg base (CXE P w) 2 f fd ["rooms"] (spRefRooms K cl) := by
  have GN : FnOk P w K mg base CX0 1 fN fdN ["thing"] (spName K) := ok_name FN T
  refine okE F scRR (fun vs H Q E h => ?_) (fun cdv A outer s H vs Q E hr h D => ?_)
  · obtain ⟨a, ss, rfl, _⟩ := h
    rfl
  · obtain ⟨a, ss, rfl, hS, hsh, q⟩ := h
    refine ⟨_, pss_one (ps_for PassesOwn.leaving rfl (pi_list (pv 0)) (pg_name (i := 1) scRR.nd rfl (Or.inl rfl))
        (pss_one (ps_if (pt_not (pt_val (pe_call GN hr rfl mN FN.kp bN .nil pass0 (pac (pv 1) pa_nil)))) (pss_one (ps_raise D rfl (by rfl) Ex.nn (Ex.x .noName) (pac pe_str pa_nil))) pss_nil))), ?_⟩
    refine ⟨_, rfl, a, rfl, ⟨_, hS⟩, ?_⟩
    refine for_list (xs := ss.map V.str) (fun i σ H' => ∃ nv, σ = [some (.ref a), nv] ∧ Same H H' ∧ (ss.take i).all isNameS = true) ?_ ?_ ?_ ?_
    · exact ⟨none, rfl, Same.refl H, rfl⟩
    · rintro i σ H' _ ⟨nv, rfl, h1, h2⟩
      exact h1.seq hS
    · rintro i x σ H' hx ⟨nv, rfl, h1, h2⟩
      rw [List.getElem?_map] at hx
      cases hz : ss[i]? with
      | none => rw [hz] at hx; cases hx
      | some z =>
        rw [hz] at hx
        cases hx
        obtain ⟨hi, hzi⟩ := List.getElem?_eq_some_iff.mp hz
        have hzl : z.length ≤ 1000 := hsh z (List.mem_of_getElem? hz)
        refine ⟨_, rfl, .str z, rfl, .inl ⟨z, rfl, Nat.le_of_lt (small1000 hzl), fun H2 sm2 => ⟨_, rfl, ?_⟩⟩⟩
        by_cases hn : isNameS z = true
        · rw [hn]
          refine iteF ⟨some (.str z), rfl, h1.trans sm2, ?_⟩
          rw [List.take_succ, hz, List.all_append, h2]
          show (true && (isNameS z && true)) = true
          rw [hn]
          rfl
        · rw [Bool.eq_false_iff.mpr hn]
          refine iteT ⟨by show 1 ≤ sizeLine; decide, ?_⟩
          have := q H2 (h1.trans sm2)
          rw [badRooms_drop h2, List.drop_eq_getElem_cons hi, hzi] at this
          unfold badRooms at this
          rw [if_neg (by rw [List.all_cons, Bool.eq_false_iff.mpr hn]; exact Bool.false_ne_true)] at this
          exact this
    · rintro σ H' ⟨nv, rfl, h1, h2⟩
      rw [List.length_map, List.take_length] at h2
      have := q H' h1
      unfold badRooms at this
      rw [if_pos h2] at this
      exact this
end
theorem scLd : FnScope ["rooms", "doors", "leads", "room", "deed", "far"] ["rooms", "doors"] (defScope sLeads) := ⟨rfl, rfl, rfl, by decide +kernel, rfl, by decide +kernel, by decide +kernel⟩
section
variable {P : Program} {w : World} {K : PySem.W.Frag} {mg : Str → Option Value} {base : Heap}
theorem ok_leads {f : Addr} {fd : FuncData} (F : Fun K "leads_of" "leads_of" sLeads f fd) : FnOk P w K mg base CX0 1 f fd ["rooms", "doors"] (spLeads K) := by
  refine F.ok scLd (fun vs H Q E h => ?_) (fun cdv A outer s H vs Q E hr h => ?_)
  · obtain ⟨a, d, rs, ds, rfl, _⟩ := h
    rfl
  · obtain ⟨a, d, rs, ds, rfl, hR, hD, hlr, hld, hin, hap, q⟩ := h
    have hu := hu_of hr
    refine ⟨_, pss_cons (ps_set (i := 2) scLd.nd rfl (Or.inl rfl) pe_dnewK)
      (pss_cons (ps_for PassesOwn.never rfl (pi_list (pv 0)) (pg_name (i := 3) scLd.nd rfl (Or.inl rfl)) (pss_one (ps_dput hu (pv 2) (pv 3) pe_dnewK rfl)))
      (pss_cons (ps_for PassesOwn.never rfl (pi_list (pv 1)) (pg_tup rfl (pgs_cons (pg_name (i := 3) scLd.nd rfl (Or.inl rfl)) (pgs_cons (pg_name (i := 4) scLd.nd rfl (Or.inl rfl)) (pgs_cons (pg_name (i := 5) scLd.nd rfl (Or.inl rfl)) pgs_nil))))
        (pss_cons (ps_if (pt_cmp (pc_din hu (pv 4) (pe_dget hu (pv 2) (pv 3) (fun _ _ => rfl)))) (pss_one ps_dead) pss_nil)
        (pss_one (ps_dput hu (pe_dget hu (pv 2) (pv 3) (fun _ _ => rfl)) (pv 4) (pv 5) rfl))))
      (pss_one (ps_ret (pv 2))))), ?_⟩
    obtain ⟨ts, hd, htl, htt⟩ := hD.ex
    intro l hl
    have s0 : Same H (upd H l (.dK [])) := smu hl
    refine ⟨_, rfl, a, rfl, ⟨_, s0.seq hR⟩, ?_⟩
    refine for_list (xs := rs.map V.str) (fun i σ H' => ∃ x3 kvs g, σ = [some (.ref a), some (.ref d), some (.ref l), x3, none, none] ∧ LeadsAt H' l (rs.take i) [] kvs g ∧ (∀ z ∈ rs.take i, H (g z) = none) ∧ kvs.length ≤ i ∧ Same H H') ?_ ?_ ?_ ?_
    · exact ⟨none, [], fun _ => 0, rfl, ⟨upd_same, rfl, fun z hz => (nomatch hz), fun z hz => (nomatch hz), fun z hz => (nomatch hz), fun z hz => (nomatch hz)⟩, fun z hz => (nomatch hz), Nat.le_refl _, s0⟩
    · rintro i σ H' _ ⟨x3, kvs, g, rfl, L, hg, hk, sm⟩
      exact sm.seq hR
    · rintro i x σ H' hx ⟨x3, kvs, g, rfl, L, hg, hk, sm⟩
      rw [List.getElem?_map] at hx
      cases hz : rs[i]? with
      | none => rw [hz] at hx; cases hx
      | some z =>
        rw [hz] at hx
        cases hx
        have hi : i < rs.length := (List.getElem?_eq_some_iff.mp hz).1
        have et : rs.take (i + 1) = rs.take i ++ [z] := by rw [List.take_succ, hz]; rfl
        intro c hc
        have cl : c ≠ l := fun e => by rw [e, L.dk] at hc; cases hc
        have hcH : H c = none := by
          cases e : H c with
          | none => rfl
          | some o => rw [sm _ _ e] at hc; cases hc
        refine ⟨_, rfl, _, rfl, l, _, rfl, DPut.k (k := Sum.inr z) (by rw [upd_ne (Ne.symm cl)]; exact L.dk) (small1000 (by omega)), ?_⟩
        refine ⟨_, _, _, rfl, by rw [et]; exact L.more hc z, fun y hy => ?_, ?_, fun b o e => ?_⟩
        · rw [et] at hy
          by_cases e : y = z
          · show H (if y = z then c else g y) = none
            rw [if_pos e]; exact hcH
          · show H (if y = z then c else g y) = none
            rw [if_neg e]
            exact hg y ((List.mem_append.mp hy).resolve_right fun w => e (List.mem_singleton.mp w))
        · exact Nat.le_trans (length_putK _ _ _) (Nat.succ_le_succ hk)
        · rw [upd_ne (ne_of_none e hl), upd_ne (ne_of_none e hcH)]
          exact sm b o e
    · rintro σ H1 ⟨x3, kvs, g, rfl, L, hg, hk, sm⟩
      rw [List.length_map, List.take_length] at L hg
      refine ⟨_, rfl, d, rfl, ⟨_, SqL.of (sm _ _ hd)⟩, ?_⟩
      refine for_list (xs := ts.map V.ref) (fun i σ H' => ∃ x3 x4 x5, σ = [some (.ref a), some (.ref d), some (.ref l), x3, x4, x5] ∧ LeadsAt H' l rs (ds.take i) kvs g ∧ Same H H') ?_ ?_ ?_ ?_
      · exact ⟨_, _, _, rfl, L, sm⟩
      · rintro i σ H' _ ⟨x3, x4, x5, rfl, h1, h2⟩
        exact SqL.of (h2 _ _ hd)
      · rintro i x σ H' hx ⟨x3, x4, x5, rfl, L', sm'⟩
        rw [List.getElem?_map] at hx
        cases ht : ts[i]? with
        | none => rw [ht] at hx; cases hx
        | some t =>
          rw [ht] at hx
          cases hx
          have hi : i < ds.length := by rw [← htl]; exact (List.getElem?_eq_some_iff.mp ht).1
          have hz : ds[i]? = some ds[i] := List.getElem?_eq_getElem hi
          generalize ds[i] = z at hz
          have zin := hin z (List.mem_of_getElem? hz)
          have gv : DGet H' l (.str z.1) (some (.ref (g z.1))) := by
            have := DGet.k (k := Sum.inr z.1) L'.dk
            rw [L'.val _ zin] at this
            exact this
          have gi := DGet.k (k := Sum.inr z.2.1) (L'.dd _ zin)
          rw [inn_none (hap.at hz)] at gi
          refine ⟨t, _, rfl, SqT.of (sm' _ _ (htt i t z ht hz)), rfl, _, _, rfl, _, _, rfl, _, _, rfl, rfl, ?_⟩
          refine ⟨_, rfl, _, rfl, _, rfl, l, _, rfl, gv, g z.1, none, rfl, gi, _, rfl, iteF ?_⟩
          refine ⟨_, rfl, _, rfl, _, rfl, l, _, rfl, gv, _, rfl, g z.1, _, rfl, DPut.k (k := Sum.inr z.2.1) (L'.dd _ zin) (small1000 (Nat.le_trans (inn_len _ _) (by rw [List.length_take]; omega))), ?_⟩
          refine ⟨_, _, _, rfl, L'.door hz zin hap, fun b o e => ?_⟩
          rw [upd_ne (ne_of_none e (hg _ zin))]
          exact sm' b o e
      · rintro σ H' ⟨x3, x4, x5, rfl, h1, h2⟩
        rw [List.length_map, htl, List.take_length] at h1
        exact ⟨_, rfl, q l kvs g H' h2 hl hg h1⟩
end
end K32
namespace K32
open PySem L2 Ky
seal L2.PE L2.PS L2.PSs L2.PA L2.PT L2.PW L2.PG L2.PI L2.PTs L2.PO L2.OpR L2.IxR L2.CallR L2.MtM L2.MtR
unseal L2.MtM L2.MtR
noncomputable abbrev NMI : List Str := ["self", "deeds", "begin", "ends", "doors", "more", "rooms", "known"]
theorem scMI : FnScope NMI ["self", "deeds", "begin", "ends", "doors", "more"] (defScope mInit) := ⟨rfl, rfl, rfl, by decide +kernel, rfl, by decide +kernel, by decide +kernel⟩
section
variable {P : Program} {w : World} {K : PySem.W.Frag} {mg : Str → Option Value} {base : Heap}
theorem ok_mInit {f fN fR fL fK fQ C CM : Addr} {fd fdN fdR fdL fdK fdQ : FuncData} {cl : Why → Addr} (F : FunD K "__init__" "Machine.__init__" mInit f fd) (T : Txt K mg) (DC : DCls K C) (MC : MCls K CM)
    (mMR : ∃ t, mg "MOST_ROOMS" = some (.int 60 t))
    (GN : FnOk P w K mg base CX0 1 fN fdN ["begin", "ends", "doors"] spNamed) (kN : PySem.W.keepIn K (.ref fN) = true) (bN : Binds K fdN ["begin", "ends", "doors"] []) (mN : mg "named_rooms" = some (.ref fN))
    (GR : FnOk P w K mg base (CXE P w) 2 fR fdR ["rooms"] (spRefRooms K cl)) (kR : PySem.W.keepIn K (.ref fR) = true) (bR : Binds K fdR ["rooms"] []) (mR : mg "refuse_rooms" = some (.ref fR))
    (GL : FnOk P w K mg base CX0 1 fL fdL ["rooms", "doors"] (spLeads K)) (kL : PySem.W.keepIn K (.ref fL) = true) (bL : Binds K fdL ["rooms", "doors"] []) (mL : mg "leads_of" = some (.ref fL))
    (GK : FnOk P w K mg base CX0 1 fK fdK ["names"] (spMarks K)) (kK : PySem.W.keepIn K (.ref fK) = true) (bK : Binds K fdK ["names"] []) (mK : mg "marks_of" = some (.ref fK))
    (GQ : FnOk P w K mg base (CXE P w) 3 fQ fdQ ["self", "row"] (spRequire K C cl)) (bQ : Binds K fdQ ["self", "row"] []) (mQ : Meth K C "require" fQ) :
    FnOk P w K mg base (CXE P w) 4 f fd ["self", "deeds", "begin", "ends", "doors", "more"] (spMInit K C CM) := by
  obtain ⟨tr, mMR⟩ := mMR
  refine okED F scMI (fun vs H Q E h => ?_) (fun cdv A outer s H vs Q E hr h D => ?_)
  · obtain ⟨x, dd, e, d, dx, b, y, es, ms, ds, wk, rfl, _⟩ := h
    rfl
  · obtain ⟨x, dd, e, d, dx, b, y, es, ms, ds, wk, rfl, hx, hW, hE, hD, hM, ⟨hle, hld, hlm⟩, hnm, hgd, hsh, hap, h60, q⟩ := h
    have hr1 : Room 1 _ := hr.mono (by decide)
    have hr2 : Room 2 _ := hr.mono (by decide)
    refine ⟨_, pss_cons (ps_set (i := 6) scMI.nd rfl (Or.inl rfl) (pe_call GN hr1 rfl mN kN bN .nil pass0 (pac (pv 2) (pac (pv 3) (pac (pv 4) pa_nil)))))
      (pss_cons (ps_expr (pe_call GR hr2 rfl mR kR bR .nil (D.passes fun _ _ _ z => z) (pac (pv 6) pa_nil)))
      (pss_cons (ps_setcomp (i := 7) (N' := ["room", "deed", "far"]) (nown := 3) (js := []) rfl scMI.nd rfl rfl rfl
          ⟨rfl, by decide +kernel, by decide +kernel⟩ (blkNames (defScope mInit) NMI rfl rfl (by decide +kernel))
          ⟨fun _ _ _ _ => show PG _ _ (gTup K 3 (gCons (gName 0) (gCons (gName 1) (gCons (gName 2) gNil)))) from pg_tup rfl (pgs_cons (pg_name (i := 0) (show List.Nodup (["room", "deed", "far"] : List Str) by decide +kernel) rfl (Or.inl rfl) (.inr rfl)) (pgs_cons (pg_name (i := 1) (show List.Nodup (["room", "deed", "far"] : List Str) by decide +kernel) rfl (Or.inl rfl) (.inr rfl)) (pgs_cons (pg_name (i := 2) (show List.Nodup (["room", "deed", "far"] : List Str) by decide +kernel) rfl (Or.inl rfl) (.inr rfl)) pgs_nil))),
            fun _ _ _ _ => pts_nil, fun _ _ _ _ => pv 1⟩
          (pi_list (pv 4)))
      (pss_cut (fun σ H' => ∃ p c, σ = [some (.ref x), some (.ref dd), some (.str b), some (.ref e), some (.ref d), some y, some (.ref p), some (.ref c)] ∧ H' p = some (.lst ((roomsOf b es ds).map V.str)) ∧ H' c = some (.lst ((knownOf ds ms).map V.str)) ∧ Same H H')
        (ps_if (pt_cmpR op_notN (pv 5) pe_non (nomark _)) (pss_one (ps_expr (pe_bm PySem.F.plainAttrs_list PySem.F.slot_list_extend PySem.F.type_list_extend mt_extend (pv 7) (pac (pv 5) pa_nil)))) pss_nil)
      (pss_cons (ps_expr (pe_meth (pv 1) DC.cl mQ GQ hr bQ .nil (D.passes fun _ _ _ z => z) (pac (pv 7) pa_nil)))
      (pss_cons (ps_fld (pv 0) (pe_call GL hr1 rfl mL kL bL .nil pass0 (pac (pv 6) (pac (pv 4) pa_nil))) rfl)
      (pss_cons (ps_if (pt_cmpR op_gt (pe_callB call_lenD (by rfl) T.len Bo.len (pac (pe_fld (pv 0) rfl) pa_nil)) (pe_glob (v := .int 60) (by rfl) mMR ⟨_, rfl⟩) (nomark _)) (pss_one ps_dead) pss_nil)
      (pss_cons (ps_fld (pv 0) (pv 1) rfl)
      (pss_cons (ps_fld (pv 0) (pv 2) rfl)
      (pss_cons (ps_fld (pv 0) (pe_call GK hr1 rfl mK kK bK .nil pass0 (pac (pv 3) pa_nil)) rfl)
      (pss_one (ps_fld (pv 0) (pe_call GK hr1 rfl mK kK bK .nil pass0 (pac (pv 7) pa_nil)) rfl))))))))))), ?_⟩
    have hxe : ∀ {a : Addr} {o : HO}, H a = some o → (∀ fs, o ≠ .ins CM dx fs) → a ≠ x := fun {a o} h n e => by rw [e, hx] at h; exact n _ (Option.some.inj h).symm
    refine ⟨_, rfl, _, rfl, _, rfl, b, e, d, es, ds, rfl, hE, hD, by omega, by omega, fun p H1 s1 hp hp1 => ?_⟩
    refine ⟨_, rfl, p, _, rfl, SqL.of hp1, short_of_names hnm, fun H2 s2 => ?_⟩
    unfold badRooms
    rw [if_pos hnm]
    have s12 := s1.trans s2
    obtain ⟨ts, hd, htl, htt⟩ := (hD.same s12).ex
    have hp2 := s2 _ _ hp1
    clear hp1
    refine ⟨_, rfl, d, rfl, ⟨_, SqL.of hd⟩, fun c hc => ?_⟩
    refine blk_list (xs := ts.map V.ref) (fun i σ' H' => ∃ v0 v1 v2, σ' = [v0, v1, v2] ∧ H' c = some (.lst (((ds.take i).map (·.2.1)).map V.str)) ∧ Same H2 H') ?_ ?_ ?_ ?_
    · exact ⟨none, none, none, rfl, upd_same, smu hc⟩
    · rintro i σ' H' _ ⟨v0, v1, v2, rfl, h1, h2⟩
      exact SqL.of (h2 _ _ hd)
    · rintro i v σ' H' hv ⟨v0, v1, v2, rfl, h1, h2⟩
      rw [List.getElem?_map] at hv
      cases ht : ts[i]? with
      | none => rw [ht] at hv; cases hv
      | some t =>
        rw [ht] at hv
        cases hv
        have hi : i < ds.length := by rw [← htl]; exact (List.getElem?_eq_some_iff.mp ht).1
        have hz : ds[i]? = some ds[i] := List.getElem?_eq_getElem hi
        generalize ds[i] = z at hz
        refine ⟨t, _, rfl, SqT.of (h2 _ _ (htt i t z ht hz)), rfl, _, _, rfl, _, _, rfl, _, _, rfl, rfl, ?_⟩
        refine ⟨_, rfl, _, h1, small1000 (by rw [List.length_map, List.length_map, List.length_take]; omega), some (.str z.1), some (.str z.2.1), some (.str z.2.2), rfl, ?_, fun a o h => ?_⟩
        · rw [upd_same, List.take_succ, hz]
          simp
        · rw [upd_ne (ne_of_none h hc)]
          exact h2 a o h
    · rintro σ' H3 ⟨v0, v1, v2, rfl, h1, h2⟩
      rw [List.length_map, htl, List.take_length] at h1
      have hcH : H c = none := by
        cases h : H c with
        | none => rfl
        | some o => rw [s12 _ _ h] at hc; cases hc
      refine ⟨?_, ?_⟩
      · rcases hM with ⟨rfl, rfl⟩ | ⟨m, rfl, hm⟩
        · refine ⟨_, rfl, rfl, _, rfl, iteF ?_⟩
          refine ⟨p, c, rfl, h2 _ _ hp2, ?_, s12.trans h2⟩
          rw [h1]
          unfold knownOf
          rw [List.append_nil]
        · refine ⟨_, rfl, rfl, _, rfl, iteT ?_⟩
          refine ⟨_, rfl, .inl ⟨rfl, _, SqL.of h1⟩, _, rfl, c, m, _, _, rfl, rfl, h1, h2 _ _ (s12 _ _ hm), small2 (by rw [List.length_map, List.length_map, List.length_map]; omega), p, c, rfl, ?_, ?_, fun a o h => ?_⟩
          · rw [upd_ne (ne_of_none hp2 hc)]
            exact h2 _ _ hp2
          · rw [upd_same]
            unfold knownOf
            rw [List.map_append]
          · rw [upd_ne (ne_of_none h hcH)]
            exact h2 _ _ (s12 _ _ h)
      · clear h1 h2 hp2 s12 s1 s2 hd htl htt hc hcH
        rintro σ H4 ⟨p, c, rfl, hp4, hc4, s4⟩
        obtain ⟨wx, wf, ww, wo, hw0, hw1, hw2, hw3⟩ := hW
        refine ⟨_, rfl, dd, wx, wf, rfl, s4 _ _ hw0, hw1 "require" (by decide), _, rfl, dd, c, _, wk, rfl, SqL.of hc4, thing_str hsh, ⟨wx, wf, ww, wo, s4 _ _ hw0, hw1, hw2, s4 _ _ hw3⟩, fun H5 s5 => ?_⟩
        rw [if_pos hgd]
        have s45 := s4.trans s5
        have hx5 := s45 _ _ hx
        refine ⟨_, rfl, _, rfl, p, d, _, ds, rfl, SqL.of (s5 _ _ hp4), hD.same s45, by rw [roomsOf_len]; omega, by omega, door_mem, hap, fun l kvs g H6 s6 hl hg L => ?_⟩
        have hx6 := s6 _ _ hx5
        have lx : l ≠ x := fun z => by rw [z, hx5] at hl; cases hl
        have gx : ∀ z ∈ roomsOf b es ds, g z ≠ x := fun z hz z' => by have := hg z hz; rw [z', hx5] at this; cases this
        refine ⟨_, rfl, x, CM, dx, [], rfl, hx6, MC.cl, MC.nl, by decide, ?_⟩
        have hkl : kvs.length ≤ 60 := by
          have := congrArg List.length L.keys
          rw [List.length_map, List.length_map] at this
          rw [this]; exact h60
        have L7 : LeadsAt (upd H6 x (.ins CM dx (putF "leads" (.ref l) []))) l (roomsOf b es ds) ds kvs g := ⟨by rw [upd_ne lx]; exact L.dk, L.keys, L.val, fun z hz => by rw [upd_ne (gx z hz)]; exact L.dd z hz, L.inj, L.ne⟩
        have hx7 : (upd H6 x (.ins CM dx (putF "leads" (.ref l) []))) x = some (.ins CM dx [("leads", .ref l)]) := upd_same
        have s7 : SameBut x H (upd H6 x (.ins CM dx (putF "leads" (.ref l) []))) := fun a o n h => by rw [upd_ne n]; exact s6 _ _ (s45 _ _ h)
        have hc7 : (upd H6 x (.ins CM dx (putF "leads" (.ref l) []))) c = some (.lst ((knownOf ds ms).map V.str)) := by
          rw [upd_ne fun z => by rw [z, s4 _ _ hx] at hc4; cases hc4]
          exact s6 _ _ (s5 _ _ hc4)
        generalize upd H6 x (.ins CM dx (putF "leads" (.ref l) [])) = H7 at L7 hx7 s7 hc7 ⊢
        have he7 := s7 _ _ (hxe hE fun _ z => by cases z) hE
        refine ⟨_, rfl, x, CM, dx, _, .ref l, rfl, hx7, MC.cl, MC.nl, by rfl, l, kvs, rfl, L7.dk, _, _, rfl, rfl, _, rfl, ite2 (fun z => absurd (of_decide_eq_true z) (by omega)) fun _ => ?_⟩
        refine ⟨_, rfl, _, rfl, x, CM, dx, _, rfl, hx7, MC.cl, MC.nd, by show 1 < 1000; decide, ?_⟩
        refine ⟨_, rfl, _, rfl, x, CM, dx, _, rfl, upd_same, MC.cl, MC.nf, by show 2 < 1000; decide, ?_⟩
        have hL8 : ∀ (f2 f3 : List (Str × V)), LeadsAt (upd (upd H7 x (.ins CM dx f2)) x (.ins CM dx f3)) l (roomsOf b es ds) ds kvs g := fun f2 f3 => ⟨by rw [upd_ne lx, upd_ne lx]; exact L7.dk, L7.keys, L7.val, fun z hz => by rw [upd_ne (gx z hz), upd_ne (gx z hz)]; exact L7.dd z hz, L7.inj, L7.ne⟩
        have h8 : ∀ (f2 f3 : List (Str × V)), SameBut x H7 (upd (upd H7 x (.ins CM dx f2)) x (.ins CM dx f3)) := fun f2 f3 a o n h => by rw [upd_ne n, upd_ne n]; exact h
        have cx : c ≠ x := fun z => by rw [z, hx7] at hc7; cases hc7
        have ex : e ≠ x := hxe hE fun _ z => by cases z
        refine ⟨_, rfl, e, es, rfl, SqL.of (h8 _ _ _ _ ex he7), by omega, fun de H9 s9 hde hde9 => ?_⟩
        have hx9 := s9 x _ upd_same
        have dex : de ≠ x := fun z => by rw [z, upd_same] at hde; cases hde
        refine ⟨_, rfl, x, CM, dx, _, rfl, hx9, MC.cl, MC.ne, by show 3 < 1000; decide, ?_⟩
        have s79 : ∀ f4 : List (Str × V), SameBut x H7 (upd H9 x (.ins CM dx f4)) := fun f4 a o n h => by rw [upd_ne n]; exact s9 _ _ (h8 _ _ _ _ n h)
        refine ⟨_, rfl, c, _, rfl, SqL.of (s79 _ _ _ cx hc7), by unfold knownOf; rw [List.length_append, List.length_map]; omega, fun dk H10 s10 hdk hdk10 => ?_⟩
        have hx10 := s10 x _ upd_same
        have dkx : dk ≠ x := fun z => by rw [z, upd_same] at hdk; cases hdk
        refine ⟨_, rfl, x, CM, dx, _, rfl, hx10, MC.cl, MC.nk, by show 4 < 1000; decide, ?_⟩
        have sF : ∀ f5 : List (Str × V), SameBut x H7 (upd H10 x (.ins CM dx f5)) := fun f5 a o n h => by rw [upd_ne n]; exact s10 _ _ (s79 _ _ _ n h)
        refine q l de dk kvs g _ (fun a o n h => sF _ a o n (s7 a o n h)) ⟨by rw [upd_same]; rfl, ⟨sF _ _ _ lx L7.dk, L7.keys, L7.val, fun z hz => sF _ _ _ (gx z hz) (L7.dd z hz), L7.inj, L7.ne⟩, ?_, ?_⟩
        · rw [upd_ne dex]
          exact s10 _ _ (by rw [upd_ne dex]; exact hde9)
        · rw [upd_ne dkx]
          exact hdk10
end
end K32
namespace K32
open PySem L2 Ky
seal L2.PE L2.PS L2.PSs L2.PA L2.PT L2.PW L2.PG L2.PI L2.PTs L2.PO L2.OpR L2.IxR L2.CallR L2.MtM L2.MtR
unseal L2.MtM L2.MtR
section
variable {P : Program} {w : World} {K : PySem.W.Frag} {mg : Str → Option Value} {base : Heap}
theorem mks_some : ∀ (fs : List Str) (kvs : List (Key × V)) (z : Str), (valV (mks fs kvs) (Sum.inr z)).isSome = (decide (z ∈ fs) || (valV kvs (Sum.inr z)).isSome)
  | [], kvs, z => by simp [mks]
  | s :: r, kvs, z => by
    rw [mks, mks_some r, valV_put]
    by_cases h : z = s
    · subst h
      simp
    · rw [if_neg fun e => h (Sum.inr.inj e)]
      simp [h]
theorem scMQ : FnScope ["self", "room"] ["self", "room"] (defScope mReqRoom) := ⟨rfl, rfl, rfl, by decide +kernel, rfl, by decide +kernel, by decide +kernel⟩
theorem ok_mReq {f fN CM : Addr} {fd fdN : FuncData} (F : Fun K "require_room" "Machine.require_room" mReqRoom f fd) (T : Txt K mg) (MC : MCls K CM)
    (FN : Fun K "is_name" "is_name" sName fN fdN) (bN : Binds K fdN ["thing"] []) (mN : mg "is_name" = some (.ref fN)) : FnOk P w K mg base CX0 2 f fd ["self", "room"] (spMReq CM) := by
  have GN : FnOk P w K mg base CX0 1 fN fdN ["thing"] (spName K) := ok_name FN T
  refine F.ok scMQ (fun vs H Q E h => ?_) (fun cdv A outer s H vs Q E hr h => ?_)
  · obtain ⟨x, dd, b, z, es, kn, ds, rfl, _⟩ := h
    rfl
  · obtain ⟨x, dd, b, z, es, kn, ds, rfl, ⟨dx, l, e, k, kvs, g, M⟩, hz, hn, q⟩ := h
    have hu := hu_of hr
    refine ⟨_, pss_one (ps_if (pw_or (pt_not (pt_val (pe_call GN hr (by rfl) mN FN.kp bN .nil pass0 (pac (pv 1) pa_nil)))) (pw_or1 (pt_cmp (pc_dnotin hu (pv 1) (pe_fld (pv 0) rfl))))).pt (pss_one ps_dead) pss_nil), ?_⟩
    refine ⟨_, rfl, .str z, rfl, .inl ⟨z, rfl, Nat.le_of_lt (small1000 (Nat.le_trans (name_len hn) (by decide))), fun H2 s2 => ⟨_, rfl, ?_⟩⟩⟩
    rw [hn]
    refine iteF ⟨_, rfl, _, rfl, x, CM, dx, _, _, rfl, s2 _ _ M.ins, MC.cl, MC.nl, by rfl, l, some (.ref (g z)), rfl, ?_, _, rfl, iteF (q H2 s2)⟩
    have := DGet.k (k := Sum.inr z) (s2 _ _ M.lead.dk)
    rw [M.lead.val z hz] at this
    exact this
end
end K32
namespace K32
open PySem L2 Ky
seal L2.PE L2.PS L2.PSs L2.PA L2.PT L2.PW L2.PG L2.PI L2.PTs L2.PO L2.OpR L2.IxR L2.CallR L2.MtM L2.MtR
section
variable {P : Program} {w : World} {K : PySem.W.Frag} {mg : Str → Option Value} {base : Heap}
theorem mGet {CM : Addr} {H : Hp} {x dx l dd e k : Addr} {b : Str} {es kn : List Str} {ds : List Dr} {kvs : List (Key × V)} {g : Str → Addr} (M : MAt CM H x dx l dd e k b es kn ds kvs g) {z : Str} (hz : z ∈ roomsOf b es ds) : DGet H l (.str z) (some (.ref (g z))) := by
  have gv := DGet.k (k := Sum.inr z) M.lead.dk
  rw [M.lead.val z hz] at gv
  exact gv
theorem oV_get (ds : List Dr) (z y : Str) : (valV (inn ds z) (Sum.inr y)).getD .non = oV (doorTo ds z y) := by rw [inn_val]; rfl
theorem scMG : FnScope ["self", "room", "deed"] ["self", "room", "deed"] (defScope mGoes) := ⟨rfl, rfl, rfl, by decide +kernel, rfl, by decide +kernel, by decide +kernel⟩
theorem ok_mGoes {f CM : Addr} {fd : FuncData} (F : Fun K "goes" "Machine.goes" mGoes f fd) (MC : MCls K CM) : FnOk P w K mg base CX0 1 f fd ["self", "room", "deed"] (spMGoes CM) := by
  refine F.ok scMG (fun vs H Q E h => ?_) (fun cdv A outer s H vs Q E hr h => ?_)
  · obtain ⟨x, dd, b, z, y, es, kn, ds, rfl, _⟩ := h
    rfl
  · obtain ⟨x, dd, b, z, y, es, kn, ds, rfl, ⟨dx, l, e, k, kvs, g, M⟩, hz, q⟩ := h
    have hu := hu_of hr
    refine ⟨_, pss_cons (ps_if (pt_cmp (pc_din hu (pv 2) (pe_fld (pv 0) rfl))) (pss_one (ps_ret (pe_dget1 hu (pe_dget hu (pe_fld (pv 0) rfl) (pv 1) (fun _ _ => rfl)) (pv 2) ⟨by rfl, by rfl, by rfl, by rfl⟩))) pss_nil)
      (pss_one (ps_ret (pv 1))), ?_⟩
    refine ⟨_, rfl, _, rfl, x, CM, dx, _, _, rfl, M.ins, MC.cl, MC.nk, by rfl, k, _, rfl, DGet.k (k := Sum.inr y) M.know, _, rfl, ?_⟩
    rw [mks_some]
    unfold goTo at q
    by_cases hy : y ∈ kn
    · rw [if_pos hy] at q
      rw [decide_eq_true hy, Bool.true_or]
      refine iteT ⟨_, rfl, x, CM, dx, _, _, rfl, M.ins, MC.cl, MC.nl, by rfl, _, rfl, l, _, rfl, mGet M hz, g z, rfl, ?_, _, rfl, _, DGet.k (k := Sum.inr y) (M.lead.dd z hz), ?_⟩
      · exact .inl ⟨_, .inl (M.lead.dd z hz)⟩
      · rw [oV_get]
        exact q
    · rw [if_neg hy] at q
      rw [decide_eq_false hy]
      exact iteF ⟨_, rfl, q⟩
theorem scMBh : FnScope ["self", "row", "room", "deed"] ["self", "row"] (defScope mBehind) := ⟨rfl, rfl, rfl, by decide +kernel, rfl, by decide +kernel, by decide +kernel⟩
theorem walk_drop (ds : List Dr) (kn : List Str) : ∀ (rw : List Str) (i : Nat) (b z y : Str), walk ds kn b (rw.take i) = some z → rw[i]? = some y → walk ds kn b (rw.take (i + 1)) = goTo ds kn z y
  | [], i, b, z, y, h, e => by cases e
  | u :: r, 0, b, z, y, h, e => by
    cases e
    cases h
    show (match goTo ds kn b u with | none => none | some z' => some z') = _
    cases goTo ds kn b u <;> rfl
  | u :: r, i + 1, b, z, y, h, e => by
    rw [List.take_succ_cons] at h ⊢
    unfold walk at h ⊢
    cases q : goTo ds kn b u with
    | none => rw [q] at h; cases h
    | some z' =>
      rw [q] at h
      exact walk_drop ds kn r i z' z y h e
theorem walk_none (ds : List Dr) (kn : List Str) : ∀ (rw : List Str) (i : Nat) (b : Str), walk ds kn b (rw.take i) = none → walk ds kn b rw = none
  | [], i, b, h => by rw [List.take_nil] at h; exact h
  | u :: r, 0, b, h => by cases h
  | u :: r, i + 1, b, h => by
    rw [List.take_succ_cons] at h
    unfold walk at h ⊢
    cases q : goTo ds kn b u with
    | none => rfl
    | some z' =>
      rw [q] at h
      exact walk_none ds kn r i z' h
theorem ok_mBehind {f fG fQ C CM : Addr} {fd fdG fdQ : FuncData} {cl : Why → Addr} (F : Fun K "behind" "Machine.behind" mBehind f fd) (T : Txt K mg) (DC : DCls K C) (MC : MCls K CM)
    (GG : FnOk P w K mg base CX0 1 fG fdG ["self", "room", "deed"] (spMGoes CM)) (bG : Binds K fdG ["self", "room", "deed"] []) (mG : Meth K CM "goes" fG)
    (GQ : FnOk P w K mg base (CXE P w) 3 fQ fdQ ["self", "row"] (spRequire K C cl)) (bQ : Binds K fdQ ["self", "row"] []) (mQ : Meth K C "require" fQ) : FnOk P w K mg base (CXE P w) 4 f fd ["self", "row"] (spMBehind K C CM cl) := by
  refine okE F scMBh (fun vs H Q E h => ?_) (fun cdv A outer s H vs Q E hr h D => ?_)
  · obtain ⟨x, dd, a, b, es, kn, rw', ds, wk, rfl, _⟩ := h
    rfl
  · obtain ⟨x, dd, a, b, es, kn, rw', ds, wk, rfl, ⟨dx, l, e, k, kvs, g, M⟩, ⟨wx, wf, ww, wo, hw0, hw1, hw2, hw3⟩, hS, hsh, hnm, q⟩ := h
    have hr1 : Room 1 _ := hr.mono (by decide)
    refine ⟨_, pss_cons (ps_expr (pe_meth (pe_fld (pv 0) rfl) DC.cl mQ GQ hr bQ .nil (D.passes fun _ _ _ z => z) (pac (pv 1) pa_nil)))
      (pss_cons (ps_set (i := 2) scMBh.nd rfl (Or.inl rfl) (pe_fld (pv 0) rfl))
      (pss_cons (ps_for PassesOwn.leaving rfl (pi_list (pv 1)) (pg_name (i := 3) scMBh.nd rfl (Or.inl rfl))
        (pss_cons (ps_set (i := 2) scMBh.nd rfl (Or.inl rfl) (pe_meth (pv 0) MC.cl mG GG hr1 bG .nil pass0 (pac (pv 2) (pac (pv 3) pa_nil))))
        (pss_one (ps_if (pt_cmpR op_isN (pv 2) pe_non (nomark _)) (pss_one (ps_ret pe_non)) pss_nil))))
      (pss_one (ps_ret (pv 2))))), ?_⟩
    refine ⟨_, rfl, x, CM, dx, _, _, rfl, M.ins, MC.cl, MC.nd, by rfl, dd, wx, wf, rfl, hw0, hw1 "require" (by decide), _, rfl, dd, a, _, wk, rfl, hS, thing_str hsh, ⟨wx, wf, ww, wo, hw0, hw1, hw2, hw3⟩, fun H2 s2 => ?_⟩
    have q2 := fun H' (s : Same H2 H') => q H' (s2.trans s)
    by_cases hall : (rw'.map V.str).all (goodV wk) = true
    · simp only [if_pos hall] at q2 ⊢
      have M2 := M.same s2
      refine ⟨_, rfl, x, CM, dx, _, _, rfl, M2.ins, MC.cl, MC.nf, by rfl, _, rfl, a, rfl, ⟨_, s2.seq hS⟩, ?_⟩
      refine for_list (xs := rw'.map V.str) (fun i σ H' => ∃ z x3, σ = [some (.ref x), some (.ref a), some (.str z), x3] ∧ walk ds kn b (rw'.take i) = some z ∧ z ∈ roomsOf b es ds ∧ H' = H2) ?_ ?_ ?_ ?_
      · exact ⟨b, none, rfl, rfl, List.mem_cons_self .., rfl⟩
      · rintro i σ H' _ ⟨z, x3, rfl, h1, h2, rfl⟩
        exact s2.seq hS
      · rintro i v σ H' hv ⟨z, x3, rfl, h1, h2, rfl⟩
        rw [List.getElem?_map] at hv
        cases hy : rw'[i]? with
        | none => rw [hy] at hv; cases hv
        | some y =>
          rw [hy] at hv
          cases hv
          have h3 := walk_drop ds kn rw' i b z y h1 hy
          refine ⟨_, rfl, x, dx, _, rfl, M2.ins, mFlds_mth _ _ _ _ _ _ (by decide), _, rfl, _, rfl, x, dd, b, z, y, es, kn, ds, rfl, ⟨dx, l, e, k, kvs, g, M2⟩, h2, ?_⟩
          cases hg : goTo ds kn z y with
          | none =>
            refine ⟨_, rfl, rfl, _, rfl, iteT ?_⟩
            have := q2 H' (Same.refl H')
            rw [walk_none ds kn rw' (i + 1) b (h3.trans hg)] at this
            exact this
          | some u =>
            refine ⟨_, rfl, rfl, _, rfl, iteF ?_⟩
            exact ⟨u, some (.str y), rfl, h3.trans hg, goTo_mem h2 hg, rfl⟩
      · rintro σ H' ⟨z, x3, rfl, h1, h2, rfl⟩
        rw [List.length_map, List.take_length] at h1
        have := q2 H' (Same.refl H')
        rw [h1] at this
        exact ⟨_, rfl, this⟩
    · simp only [if_neg hall] at q2 ⊢
      exact q2 H2 (Same.refl H2)
inductive spMIsEnd (CM : Addr) (vs : List V) (H : Hp) (Q : VK) (E : XK) : Prop
  | mk (x dd : Addr) (b z : Str) (es kn : List Str) (ds : List Dr) (h0_ : vs = [.ref x, .str z]) (h1_ : MM CM H x dd b es kn ds) (h2_ : z ∈ roomsOf b es ds) (h3_ : isNameS z = true) (h4_ : ∀ H', Same H H' → Q (.bl (decide (z ∈ es))) H')
theorem scME : FnScope ["self", "room"] ["self", "room"] (defScope mIsEnd) := ⟨rfl, rfl, rfl, by decide +kernel, rfl, by decide +kernel, by decide +kernel⟩
theorem ok_mIsEnd {f fR CM : Addr} {fd fdR : FuncData} (F : Fun K "is_end" "Machine.is_end" mIsEnd f fd) (MC : MCls K CM)
    (GR : FnOk P w K mg base CX0 2 fR fdR ["self", "room"] (spMReq CM)) (bR : Binds K fdR ["self", "room"] []) (mR : Meth K CM "require_room" fR) : FnOk P w K mg base CX0 3 f fd ["self", "room"] (spMIsEnd CM) := by
  refine F.ok scME (fun vs H Q E h => ?_) (fun cdv A outer s H vs Q E hr h => ?_)
  · obtain ⟨x, dd, b, z, es, kn, ds, rfl, _⟩ := h
    rfl
  · obtain ⟨x, dd, b, z, es, kn, ds, rfl, ⟨dx, l, e, k, kvs, g, M⟩, hz, hn, q⟩ := h
    have hu := hu_of hr
    refine ⟨_, pss_cons (ps_expr (pe_meth (pv 0) MC.cl mR GR hr bR .nil pass0 (pac (pv 1) pa_nil))) (pss_one (ps_ret (pe_cmp (pc_din hu (pv 1) (pe_fld (pv 0) rfl))))), ?_⟩
    refine ⟨_, rfl, x, dx, _, rfl, M.ins, mFlds_mth _ _ _ _ _ _ (by decide), _, rfl, x, dd, b, z, es, kn, ds, rfl, ⟨dx, l, e, k, kvs, g, M⟩, hz, hn, fun H2 s2 => ?_⟩
    have M2 := M.same s2
    refine ⟨_, rfl, _, rfl, x, CM, dx, _, _, rfl, M2.ins, MC.cl, MC.ne, by rfl, e, _, rfl, DGet.k (k := Sum.inr z) M2.ends, ?_⟩
    rw [mks_some]
    have := q H2 s2
    rw [show (valV ([] : List (Key × V)) (Sum.inr z)).isSome = false from rfl, Bool.or_false]
    exact this
end
end K32
namespace K32
open PySem L2 Ky
seal L2.PE L2.PS L2.PSs L2.PA L2.PT L2.PW L2.PG L2.PI L2.PTs L2.PO L2.OpR L2.IxR L2.CallR L2.MtM L2.MtR
unseal L2.MtM L2.MtR
theorem passF {P : Program} {w : World} {X : Cx} : Passes (CXE P w) X E0 := by
  rintro pins σ H s e s' I ⟨_, _, _, _, _, _, _, _, _, _, _, _, _, _, _, _, _, h⟩
  exact h.elim
theorem wSame {C : Addr} {H H' : Hp} {p : Addr} {kvs : List (Key × V)} (h : WAt C H p kvs) (sm : Same H H') : WAt C H' p kvs := by
  obtain ⟨dx, fs, dw, o, h0, h1, h2, h3⟩ := h
  exact ⟨dx, fs, dw, o, sm _ _ h0, h1, h2, sm _ _ h3⟩
section
variable {P : Program} {w : World} {K : PySem.W.Frag} {mg : Str → Option Value} {base : Heap}
theorem scTi : FnScope ["thing"] ["thing"] (defScope sTimes) := ⟨rfl, rfl, rfl, by decide +kernel, rfl, by decide +kernel, by decide +kernel⟩
theorem ok_times {f : Addr} {fd : FuncData} (F : Fun K "is_times" "is_times" sTimes f fd) (T : Txt K mg) (m6 : ∃ t, mg "MOST_TIMES" = some (.int 6 t)) : FnOk P w K mg base CX0 1 f fd ["thing"] spTimes := by
  obtain ⟨t6, m6⟩ := m6
  refine F.ok scTi (fun vs H Q E h => ?_) (fun cdv A outer s H vs Q E hr h => ?_)
  · obtain ⟨n, rfl, _⟩ := h
    rfl
  · obtain ⟨n, rfl, hn, q⟩ := h
    refine ⟨_, pss_one (ps_ret (pe_and (pe_callB call_isi (by rfl) T.isi Bo.isinstance (pac (pv 0) (pac (pe_bltn (v := .ty "int") (by rfl) T.int Bo.int rfl) pa_nil)))
      (pe_and (pe_not (pe_callB call_isi (by rfl) T.isi Bo.isinstance (pac (pv 0) (pac (pe_bltn (v := .ty "bool") (by rfl) T.bool Bo.bool rfl) pa_nil))))
      (pe_one (pe_chain op_le op_le pe_int (pv 0) (pe_glob (v := .int 6) (by rfl) m6 ⟨_, rfl⟩)))))), ?_⟩
    refine ⟨_, rfl, .int n, .ty "int", .type "int", .type "int", true, rfl, rel_ty, TyOf.int n, rfl, _, rfl, iteT ?_⟩
    refine ⟨_, rfl, .int n, .ty "bool", .type "bool", .type "int", false, rfl, rel_ty, TyOf.int n, rfl, _, rfl, _, rfl, iteT ?_⟩
    refine ⟨_, rfl, _, _, rfl, rfl, _, rfl, ?_⟩
    rw [if_pos (decide_eq_true (by omega))]
    refine ⟨_, _, rfl, rfl, ?_⟩
    rw [decide_eq_true (by omega)]
    exact q
theorem scNI : FnScope ["self", "deed"] ["self", "deed"] (defScope nInit) := ⟨rfl, rfl, rfl, by decide +kernel, rfl, by decide +kernel, by decide +kernel⟩
theorem ok_nInit {f C : Addr} {fd : FuncData} (F : Fun K "__init__" "Never.__init__" nInit f fd) (RC : RCls K C) : FnOk P w K mg base CX0 1 f fd ["self", "deed"] (spNeverI C) := by
  refine F.ok scNI (fun vs H Q E h => ?_) (fun cdv A outer s H vs Q E hr h => ?_)
  · obtain ⟨x, dx, a, rfl, _⟩ := h
    rfl
  · obtain ⟨x, dx, a, rfl, hx, q⟩ := h
    refine ⟨_, pss_one (ps_fld (pv 0) (pv 1) rfl), ?_⟩
    exact ⟨_, rfl, _, rfl, x, C, dx, [], rfl, hx, RC.cl, RC.n1, by decide, q _ (fun b o n e => by rw [upd_ne n]; exact e) upd_same⟩
theorem scMoI : FnScope ["self", "deed", "many"] ["self", "deed", "many"] (defScope oInit) := ⟨rfl, rfl, rfl, by decide +kernel, rfl, by decide +kernel, by decide +kernel⟩
theorem ok_oInit {f fT C : Addr} {fd fdT : FuncData} (F : Fun K "__init__" "Most.__init__" oInit f fd) (RC : RCls K C)
    (GT : FnOk P w K mg base CX0 1 fT fdT ["thing"] spTimes) (kT : PySem.W.keepIn K (.ref fT) = true) (bT : Binds K fdT ["thing"] []) (mT : mg "is_times" = some (.ref fT)) : FnOk P w K mg base CX0 2 f fd ["self", "deed", "many"] (spMostI C) := by
  refine F.ok scMoI (fun vs H Q E h => ?_) (fun cdv A outer s H vs Q E hr h => ?_)
  · obtain ⟨x, dx, a, n, rfl, _⟩ := h
    rfl
  · obtain ⟨x, dx, a, n, rfl, hn, hx, q⟩ := h
    refine ⟨_, pss_cons (ps_if (pt_not (pt_val (pe_call GT hr rfl mT kT bT .nil pass0 (pac (pv 2) pa_nil)))) (pss_one ps_dead) pss_nil) (pss_cons (ps_fld (pv 0) (pv 1) rfl) (pss_one (ps_fld (pv 0) (pv 2) rfl))), ?_⟩
    refine ⟨_, rfl, n, rfl, hn, _, rfl, iteF ?_⟩
    refine ⟨_, rfl, _, rfl, x, C, dx, [], rfl, hx, RC.cl, RC.n1, by decide, ?_⟩
    exact ⟨_, rfl, _, rfl, x, C, dx, _, rfl, upd_same, RC.cl, RC.n2, by show 1 < 1000; decide, q _ (fun b o n e => by rw [upd_ne n, upd_ne n]; exact e) upd_same⟩
theorem scTwI : FnScope ["self", "one", "other"] ["self", "one", "other"] (defScope tInit) := ⟨rfl, rfl, rfl, by decide +kernel, rfl, by decide +kernel, by decide +kernel⟩
theorem ok_tInit {f : Addr} {fd : FuncData} (F : Fun K "__init__" "OfTwo.__init__" tInit f fd) : FnOk P w K mg base CX0 1 f fd ["self", "one", "other"] (spTwoI K) := by
  refine F.ok scTwI (fun vs H Q E h => ?_) (fun cdv A outer s H vs Q E hr h => ?_)
  · obtain ⟨x, dx, C, a, b, rfl, _⟩ := h
    rfl
  · obtain ⟨x, dx, C, a, b, rfl, hab, RC, hx, q⟩ := h
    refine ⟨_, pss_cons (ps_if (pt_cmpR op_eq (pv 1) (pv 2) (nomark _)) (pss_one ps_dead) pss_nil) (pss_cons (ps_fld (pv 0) (pv 1) rfl) (pss_one (ps_fld (pv 0) (pv 2) rfl))), ?_⟩
    refine ⟨_, rfl, _, rfl, rfl, _, rfl, ite2 (fun z => absurd (V.str.inj (of_decide_eq_true z)) hab) fun _ => ?_⟩
    refine ⟨_, rfl, _, rfl, x, C, dx, [], rfl, hx, RC.cl, RC.n3, by decide, ?_⟩
    exact ⟨_, rfl, _, rfl, x, C, dx, _, rfl, upd_same, RC.cl, RC.n4, by show 1 < 1000; decide, q _ (fun b o n e => by rw [upd_ne n, upd_ne n]; exact e) upd_same⟩
structure TwoC (P : Program) (w : World) (K : PySem.W.Frag) (mg : Str → Option Value) (base : Heap) (CT fT : Addr) (fdT : FuncData) : Prop where
  m : mg "OfTwo" = some (.ref CT)
  s : PySem.W.specialIn K (.ref CT) "__getattribute__" = some (some (.builtin "type.__getattribute__"))
  r : PySem.W.readsIn K CT (.type "type") = true
  f : PySem.W.findCls K (.ref CT) (.type "type") "__init__" = some (.val (.ref fT))
  h : PySem.W.handedIn (.ref fT) = true
  k : PySem.W.keepIn K (.ref fT) = true
  G : FnOk P w K mg base CX0 1 fT fdT ["self", "one", "other"] (spTwoI K)
  b : Binds K fdT ["self", "one", "other"] []
theorem sc_aI : FnScope ["self", "first", "later"] ["self", "first", "later"] (defScope aInit) := ⟨rfl, rfl, rfl, by decide +kernel, rfl, by decide +kernel, by decide +kernel⟩
theorem ok_aInit {f CT fT : Addr} {fd fdT : FuncData} (F : Fun K "__init__" "Ahead.__init__" aInit f fd) (W : TwoC P w K mg base CT fT fdT) : FnOk P w K mg base CX0 2 f fd ["self", "first", "later"] (spTwoI K) := by
  refine F.ok sc_aI (fun vs H Q E h => ?_) (fun cdv A outer s H vs Q E hr h => ?_)
  · obtain ⟨x, dx, C, a, b, rfl, _⟩ := h
    rfl
  · obtain ⟨x, dx, C, a, b, rfl, hab, RC, hx, q⟩ := h
    refine ⟨_, pss_one (ps_expr (pe_clsM (by rfl) W.m W.s W.r W.f W.h W.k W.G hr W.b pass0 (pac (pv 0) (pac (pv 1) (pac (pv 2) pa_nil))))), ?_⟩
    exact ⟨_, rfl, _, rfl, _, rfl, x, dx, C, a, b, rfl, hab, RC, hx, q⟩
theorem sc_uI : FnScope ["self", "one", "other"] ["self", "one", "other"] (defScope uInit) := ⟨rfl, rfl, rfl, by decide +kernel, rfl, by decide +kernel, by decide +kernel⟩
theorem ok_uInit {f CT fT : Addr} {fd fdT : FuncData} (F : Fun K "__init__" "Turns.__init__" uInit f fd) (W : TwoC P w K mg base CT fT fdT) : FnOk P w K mg base CX0 2 f fd ["self", "one", "other"] (spTwoI K) := by
  refine F.ok sc_uI (fun vs H Q E h => ?_) (fun cdv A outer s H vs Q E hr h => ?_)
  · obtain ⟨x, dx, C, a, b, rfl, _⟩ := h
    rfl
  · obtain ⟨x, dx, C, a, b, rfl, hab, RC, hx, q⟩ := h
    refine ⟨_, pss_one (ps_expr (pe_clsM (by rfl) W.m W.s W.r W.f W.h W.k W.G hr W.b pass0 (pac (pv 0) (pac (pv 1) (pac (pv 2) pa_nil))))), ?_⟩
    exact ⟨_, rfl, _, rfl, _, rfl, x, dx, C, a, b, rfl, hab, RC, hx, q⟩
theorem sc_hI : FnScope ["self", "deed", "other"] ["self", "deed", "other"] (defScope hInit) := ⟨rfl, rfl, rfl, by decide +kernel, rfl, by decide +kernel, by decide +kernel⟩
theorem ok_hInit {f CT fT : Addr} {fd fdT : FuncData} (F : Fun K "__init__" "Hold.__init__" hInit f fd) (W : TwoC P w K mg base CT fT fdT) : FnOk P w K mg base CX0 2 f fd ["self", "deed", "other"] (spTwoI K) := by
  refine F.ok sc_hI (fun vs H Q E h => ?_) (fun cdv A outer s H vs Q E hr h => ?_)
  · obtain ⟨x, dx, C, a, b, rfl, _⟩ := h
    rfl
  · obtain ⟨x, dx, C, a, b, rfl, hab, RC, hx, q⟩ := h
    refine ⟨_, pss_one (ps_expr (pe_clsM (by rfl) W.m W.s W.r W.f W.h W.k W.G hr W.b pass0 (pac (pv 0) (pac (pv 1) (pac (pv 2) pa_nil))))), ?_⟩
    exact ⟨_, rfl, _, rfl, _, rfl, x, dx, C, a, b, rfl, hab, RC, hx, q⟩
theorem sc_wI : FnScope ["self", "deed", "other"] ["self", "deed", "other"] (defScope wInit) := ⟨rfl, rfl, rfl, by decide +kernel, rfl, by decide +kernel, by decide +kernel⟩
theorem ok_wInit {f CT fT : Addr} {fd fdT : FuncData} (F : Fun K "__init__" "Answer.__init__" wInit f fd) (W : TwoC P w K mg base CT fT fdT) : FnOk P w K mg base CX0 2 f fd ["self", "deed", "other"] (spTwoI K) := by
  refine F.ok sc_wI (fun vs H Q E h => ?_) (fun cdv A outer s H vs Q E hr h => ?_)
  · obtain ⟨x, dx, C, a, b, rfl, _⟩ := h
    rfl
  · obtain ⟨x, dx, C, a, b, rfl, hab, RC, hx, q⟩ := h
    refine ⟨_, pss_one (ps_expr (pe_clsM (by rfl) W.m W.s W.r W.f W.h W.k W.G hr W.b pass0 (pac (pv 0) (pac (pv 1) (pac (pv 2) pa_nil))))), ?_⟩
    exact ⟨_, rfl, _, rfl, _, rfl, x, dx, C, a, b, rfl, hab, RC, hx, q⟩
theorem scNA : FnScope ["self"] ["self"] (defScope nAbout) := ⟨rfl, rfl, rfl, by decide +kernel, rfl, by decide +kernel, by decide +kernel⟩
theorem ok_nAbout {f : Addr} {fd : FuncData} {Cs : Nat → Addr} (F : Fun K "about" "Never.about" nAbout f fd) (RC : RCls K (Cs 0)) : FnOk P w K mg base CX0 1 f fd ["self"] (spAboutM Cs 0) := by
  refine F.ok scNA (fun vs H Q E h => ?_) (fun cdv A outer s H vs Q E hr h => ?_)
  · obtain ⟨x, k, rfl, _⟩ := h
    rfl
  · obtain ⟨x, k, rfl, hi, ⟨dx, hx⟩, q⟩ := h
    refine ⟨_, pss_one (ps_ret (pe_lst (pac (pe_fld (pv 0) rfl) pa_nil))), ?_⟩
    cases k with
    | never a => exact ⟨_, rfl, x, Cs 0, dx, _, .str a, rfl, hx, RC.cl, RC.n1, rfl, by show 1 ≤ sizeLine; decide, fun p hp => q p hp⟩
    | _ => cases hi
theorem scOA : FnScope ["self"] ["self"] (defScope oAbout) := ⟨rfl, rfl, rfl, by decide +kernel, rfl, by decide +kernel, by decide +kernel⟩
theorem ok_oAbout {f : Addr} {fd : FuncData} {Cs : Nat → Addr} (F : Fun K "about" "Most.about" oAbout f fd) (RC : RCls K (Cs 1)) : FnOk P w K mg base CX0 1 f fd ["self"] (spAboutM Cs 1) := by
  refine F.ok scOA (fun vs H Q E h => ?_) (fun cdv A outer s H vs Q E hr h => ?_)
  · obtain ⟨x, k, rfl, _⟩ := h
    rfl
  · obtain ⟨x, k, rfl, hi, ⟨dx, hx⟩, q⟩ := h
    refine ⟨_, pss_one (ps_ret (pe_lst (pac (pe_fld (pv 0) rfl) pa_nil))), ?_⟩
    cases k with
    | most a n => exact ⟨_, rfl, x, Cs 1, dx, _, .str a, rfl, hx, RC.cl, RC.n1, rfl, by show 1 ≤ sizeLine; decide, fun p hp => q p hp⟩
    | _ => cases hi
end
end K32
namespace K32
open PySem L2 Ky
seal L2.PE L2.PS L2.PSs L2.PA L2.PT L2.PW L2.PG L2.PI L2.PTs L2.PO L2.OpR L2.IxR L2.CallR L2.MtM L2.MtR
unseal L2.MtM L2.MtR
theorem r0e : V.str "r0" = V.str (rmN 0) := by rw [rm8.2.2.1]
theorem r1e : V.str "r1" = V.str (rmN 1) := by rw [rm8.2.2.2]
section
variable {P : Program} {w : World} {K : PySem.W.Frag} {mg : Str → Option Value} {base : Heap}
theorem mkM {C CM X dX dd e d : Addr} {y : V} {k : RK} {ss : List Str} {wk : List (Key × V)} {H : Hp} {Q' : VK} {E : XK} (hX : H X = none) (hdX : H dX = none) (hk : k.Ok ss) (hg : ∀ z ∈ ss, goodV wk (.str z) = true) (hsh : Short ss) (hW : WAt C H dd wk)
    (hE : H e = some (.lst (k.ends.map V.str))) (hD : DoorsAt H d k.doors) (hM : (y = .non ∧ k.more = []) ∨ ∃ m, y = .ref m ∧ H m = some (.lst (k.more.map V.str)))
    (q : ∀ H', Same H H' → MM CM H' X dd (rmN 0) k.ends k.kn k.doors → Q' .non H') : spMInit K C CM [.ref X, .ref dd, .str "r0", .ref e, .ref d, y] (upd (upd H dX (.own X)) X (.ins CM dX [])) Q' E := by
  have k1 : Same H (upd (upd H dX (.own X)) X (.ins CM dX [])) := fun b o e => by rw [upd_ne (ne_of_none e hX), upd_ne (ne_of_none e hdX)]; exact e
  have R := rule_m k hk
  refine ⟨X, dd, e, d, dX, rmN 0, y, k.ends, k.more, k.doors, wk, by rw [r0e], upd_same, wSame hW k1, k1 _ _ hE, hD.same k1, ?_, R.le, R.nm, List.all_eq_true.mpr fun v hv => ?_, fun z hz => hsh z (R.kn z hz), R.ap, R.ro, fun l e' kk kvs g H' sb M => q H' (fun b o e => sb b o (ne_of_none e hX) (k1 b o e)) ⟨dX, l, e', kk, kvs, g, M⟩⟩
  · rcases hM with h | ⟨m, h1, h2⟩
    · exact .inl h
    · exact .inr ⟨m, h1, k1 _ _ h2⟩
  · obtain ⟨z, hz, rfl⟩ := List.mem_map.mp hv
    exact hg z (R.kn z hz)
theorem sc_nM : FnScope ["self", "deeds"] ["self", "deeds"] (defScope nMach) := ⟨rfl, rfl, rfl, by decide +kernel, rfl, by decide +kernel, by decide +kernel⟩
theorem ok_nMach {f fA fMI C CM : Addr} {fd fdA fdMI : FuncData} {Cs : Nat → Addr} (F : Fun K "machine" "Never.machine" nMach f fd) (RC : RCls K (Cs 0)) (MC : MCls K CM) (GMI : FnOk P w K mg base (CXE P w) 4 fMI fdMI ["self", "deeds", "begin", "ends", "doors", "more"] (spMInit K C CM)) (MMk : Mk K CM fMI) (mMa : mg "Machine" = some (.ref CM)) (bMI : Binds K fdMI ["self", "deeds", "begin", "ends", "doors", "more"] [])
    (GA : FnOk P w K mg base CX0 1 fA fdA ["self"] (spAboutM Cs 0)) (bA : Binds K fdA ["self"] []) (mA : Meth K (Cs 0) "about" fA) : FnOk P w K mg base CX0 6 f fd ["self", "deeds"] (spRM C CM Cs 0) := by
  refine F.ok sc_nM (fun vs H Q E h => ?_) (fun cdv A outer s H vs Q E hr h => ?_)
  · obtain ⟨x, dd, k, ss, wk, rfl, _⟩ := h
    rfl
  · obtain ⟨x, dd, k, ss, wk, rfl, hi, ⟨dx, hx⟩, hk, hg, hsh, hW, q⟩ := h
    have hr1 : Room 1 _ := hr.mono (by decide)
    refine ⟨_, pss_one (ps_ret (pe_make MMk GMI hr rfl mMa bMI .nil passF (pac (pv 1) (pac pe_str (pac (pe_lst (pac pe_str pa_nil)) (pac (pe_lst pa_nil) (pac (pe_meth0 (pv 0) RC.cl mA GA hr1 bA .nil pass0) pa_nil))))))), ?_⟩
    cases k with
    | never a =>
      refine ⟨_, rfl, by show 1 ≤ sizeLine; decide, fun q1 hq1 => ⟨by show 0 ≤ sizeLine; decide, fun q2 hq2 => ⟨_, rfl, x, dx, _, rfl, smu hq2 _ _ (smu hq1 _ _ hx), flds_mth (.never a) "about" (by decide), x, .never a, rfl, rfl, ⟨dx, smu hq2 _ _ (smu hq1 _ _ hx)⟩, fun l hl X dX hX hdX _ => ?_⟩⟩⟩
      have s3 := (smu (o := .lst [.str "r0"]) hq1).trans ((smu (o := .lst []) hq2).trans (smu (o := .lst [.str a]) hl))
      refine mkM (k := .never a) hX hdX hk hg hsh (wSame hW s3) ?_ ⟨[], smu hl _ _ upd_same, rfl, fun i t x h => nomatch h⟩ (.inr ⟨l, rfl, upd_same⟩) fun H' sm M => ⟨rfl, q X H' (s3.trans sm) M⟩
      refine smu hl _ _ (smu hq2 _ _ ?_)
      show _ = some (HO.lst [V.str (rmN 0)])
      rw [upd_same, ← r0e]
    | _ => cases hi
noncomputable abbrev N_a : List Str := ["self", "deeds", "doors"]
theorem sc_aM : FnScope N_a ["self", "deeds"] (defScope aMach) := ⟨rfl, rfl, rfl, by decide +kernel, rfl, by decide +kernel, by decide +kernel⟩
theorem ok_aMach {f fMI C CM : Addr} {fd fdMI : FuncData} {Cs : Nat → Addr} (F : Fun K "machine" "Ahead.machine" aMach f fd) (RC : RCls K (Cs 2)) (MC : MCls K CM) (GMI : FnOk P w K mg base (CXE P w) 4 fMI fdMI ["self", "deeds", "begin", "ends", "doors", "more"] (spMInit K C CM)) (MMk : Mk K CM fMI) (mMa : mg "Machine" = some (.ref CM)) (bMI1 : Binds K fdMI ["self", "deeds", "begin", "ends", "doors", "more"] [.none]) : FnOk P w K mg base CX0 6 f fd ["self", "deeds"] (spRM C CM Cs 2) := by
  refine F.ok sc_aM (fun vs H Q E h => ?_) (fun cdv A outer s H vs Q E hr h => ?_)
  · obtain ⟨x, dd, k, ss, wk, rfl, _⟩ := h
    rfl
  · obtain ⟨x, dd, k, ss, wk, rfl, hi, ⟨dx, hx⟩, hk, hg, hsh, hW, q⟩ := h
    refine ⟨_, pss_cons (ps_set (i := 2) sc_aM.nd rfl (Or.inl rfl) (pe_lst (pac (pe_tup (pac pe_str (pac (pe_fld (pv 0) rfl) (pac pe_str pa_nil)))) (pac (pe_tup (pac pe_str (pac (pe_fld (pv 0) rfl) (pac pe_str pa_nil)))) (pac (pe_tup (pac pe_str (pac (pe_fld (pv 0) rfl) (pac pe_str pa_nil)))) pa_nil)))))
      (pss_one (ps_ret (pe_make (dvs := [.non]) MMk GMI hr rfl mMa bMI1 (.cons rfl .nil) passF (pac (pv 1) (pac pe_str (pac (pe_lst (pac pe_str (pac pe_str pa_nil))) (pac (pv 2) pa_nil))))))), ?_⟩
    cases k with
    | ahead a b =>
      have f1 : (RK.ahead a b).flds.lookup ("one" : Str) = some (V.str a) := rfl
      have f2 : (RK.ahead a b).flds.lookup ("other" : Str) = some (V.str b) := rfl
      refine ⟨_, rfl, x, Cs 2, dx, _, .str a, rfl, hx, RC.cl, RC.n3, f1, by show 3 ≤ sizeLine; decide, fun t1 ht1 => ⟨_, rfl, x, Cs 2, dx, _, .str a, rfl, smu ht1 _ _ (hx), RC.cl, RC.n3, f1, by show 3 ≤ sizeLine; decide, fun t2 ht2 => ⟨_, rfl, x, Cs 2, dx, _, .str b, rfl, smu ht2 _ _ (smu ht1 _ _ (hx)), RC.cl, RC.n4, f2, by show 3 ≤ sizeLine; decide, fun t3 ht3 => ⟨by show 3 ≤ sizeLine; decide, fun q0 hq0 => ⟨_, rfl, by show 2 ≤ sizeLine; decide, fun q1 hq1 => ⟨_, rfl, fun X dX hX hdX _ => ?_⟩⟩⟩⟩⟩⟩
      have s3 := (smu (o := .tup [.str "r0", .str a, .str "r1"]) ht1).trans ((smu (o := .tup [.str "r1", .str a, .str "r1"]) ht2).trans ((smu (o := .tup [.str "r1", .str b, .str "r1"]) ht3).trans ((smu (o := .lst [.ref t1, .ref t2, .ref t3]) hq0).trans ((smu (o := .lst [.str "r0", .str "r1"]) hq1)))))
      have d1 : (upd (upd (upd (upd (upd H t1 (.tup [.str "r0", .str a, .str "r1"])) t2 (.tup [.str "r1", .str a, .str "r1"])) t3 (.tup [.str "r1", .str b, .str "r1"])) q0 (.lst [.ref t1, .ref t2, .ref t3])) q1 (.lst [.str "r0", .str "r1"])) t1 = some (.tup [.str (rmN 0), .str a, .str (rmN 1)]) := by simp only [← r0e, ← r1e]; exact smu hq1 _ _ (smu hq0 _ _ (smu ht3 _ _ (smu ht2 _ _ (upd_same))))
      have d2 : (upd (upd (upd (upd (upd H t1 (.tup [.str "r0", .str a, .str "r1"])) t2 (.tup [.str "r1", .str a, .str "r1"])) t3 (.tup [.str "r1", .str b, .str "r1"])) q0 (.lst [.ref t1, .ref t2, .ref t3])) q1 (.lst [.str "r0", .str "r1"])) t2 = some (.tup [.str (rmN 1), .str a, .str (rmN 1)]) := by simp only [← r0e, ← r1e]; exact smu hq1 _ _ (smu hq0 _ _ (smu ht3 _ _ (upd_same)))
      have d3 : (upd (upd (upd (upd (upd H t1 (.tup [.str "r0", .str a, .str "r1"])) t2 (.tup [.str "r1", .str a, .str "r1"])) t3 (.tup [.str "r1", .str b, .str "r1"])) q0 (.lst [.ref t1, .ref t2, .ref t3])) q1 (.lst [.str "r0", .str "r1"])) t3 = some (.tup [.str (rmN 1), .str b, .str (rmN 1)]) := by simp only [← r0e, ← r1e]; exact smu hq1 _ _ (smu hq0 _ _ (upd_same))
      have de : (upd (upd (upd (upd (upd H t1 (.tup [.str "r0", .str a, .str "r1"])) t2 (.tup [.str "r1", .str a, .str "r1"])) t3 (.tup [.str "r1", .str b, .str "r1"])) q0 (.lst [.ref t1, .ref t2, .ref t3])) q1 (.lst [.str "r0", .str "r1"])) q1 = some (.lst ((RK.ahead a b).ends.map V.str)) := by
        show _ = some (HO.lst [V.str (rmN 0), V.str (rmN 1)])
        rw [upd_same, ← r0e, ← r1e]
      have dq : (upd (upd (upd (upd (upd H t1 (.tup [.str "r0", .str a, .str "r1"])) t2 (.tup [.str "r1", .str a, .str "r1"])) t3 (.tup [.str "r1", .str b, .str "r1"])) q0 (.lst [.ref t1, .ref t2, .ref t3])) q1 (.lst [.str "r0", .str "r1"])) q0 = some (.lst [.ref t1, .ref t2, .ref t3]) := smu hq1 _ _ upd_same
      generalize (upd (upd (upd (upd (upd H t1 (.tup [.str "r0", .str a, .str "r1"])) t2 (.tup [.str "r1", .str a, .str "r1"])) t3 (.tup [.str "r1", .str b, .str "r1"])) q0 (.lst [.ref t1, .ref t2, .ref t3])) q1 (.lst [.str "r0", .str "r1"])) = H5 at s3 de dq hX hdX d1 d2 d3 ⊢
      exact mkM (k := .ahead a b) hX hdX hk hg hsh (wSame hW s3) de (DrsL.at (.cons (d1) (.cons (d2) (.cons (d3) .nil))) dq) (.inl ⟨rfl, rfl⟩) fun H' sm M => ⟨rfl, q X H' (s3.trans sm) M⟩
    | _ => cases hi
noncomputable abbrev N_u : List Str := ["self", "deeds", "doors"]
theorem sc_uM : FnScope N_u ["self", "deeds"] (defScope uMach) := ⟨rfl, rfl, rfl, by decide +kernel, rfl, by decide +kernel, by decide +kernel⟩
theorem ok_uMach {f fMI C CM : Addr} {fd fdMI : FuncData} {Cs : Nat → Addr} (F : Fun K "machine" "Turns.machine" uMach f fd) (RC : RCls K (Cs 3)) (MC : MCls K CM) (GMI : FnOk P w K mg base (CXE P w) 4 fMI fdMI ["self", "deeds", "begin", "ends", "doors", "more"] (spMInit K C CM)) (MMk : Mk K CM fMI) (mMa : mg "Machine" = some (.ref CM)) (bMI1 : Binds K fdMI ["self", "deeds", "begin", "ends", "doors", "more"] [.none]) : FnOk P w K mg base CX0 6 f fd ["self", "deeds"] (spRM C CM Cs 3) := by
  refine F.ok sc_uM (fun vs H Q E h => ?_) (fun cdv A outer s H vs Q E hr h => ?_)
  · obtain ⟨x, dd, k, ss, wk, rfl, _⟩ := h
    rfl
  · obtain ⟨x, dd, k, ss, wk, rfl, hi, ⟨dx, hx⟩, hk, hg, hsh, hW, q⟩ := h
    refine ⟨_, pss_cons (ps_set (i := 2) sc_uM.nd rfl (Or.inl rfl) (pe_lst (pac (pe_tup (pac pe_str (pac (pe_fld (pv 0) rfl) (pac pe_str pa_nil)))) (pac (pe_tup (pac pe_str (pac (pe_fld (pv 0) rfl) (pac pe_str pa_nil)))) pa_nil))))
      (pss_one (ps_ret (pe_make (dvs := [.non]) MMk GMI hr rfl mMa bMI1 (.cons rfl .nil) passF (pac (pv 1) (pac pe_str (pac (pe_lst (pac pe_str (pac pe_str pa_nil))) (pac (pv 2) pa_nil))))))), ?_⟩
    cases k with
    | turns a b =>
      have f1 : (RK.turns a b).flds.lookup ("one" : Str) = some (V.str a) := rfl
      have f2 : (RK.turns a b).flds.lookup ("other" : Str) = some (V.str b) := rfl
      refine ⟨_, rfl, x, Cs 3, dx, _, .str a, rfl, hx, RC.cl, RC.n3, f1, by show 3 ≤ sizeLine; decide, fun t1 ht1 => ⟨_, rfl, x, Cs 3, dx, _, .str b, rfl, smu ht1 _ _ (hx), RC.cl, RC.n4, f2, by show 3 ≤ sizeLine; decide, fun t2 ht2 => ⟨by show 2 ≤ sizeLine; decide, fun q0 hq0 => ⟨_, rfl, by show 2 ≤ sizeLine; decide, fun q1 hq1 => ⟨_, rfl, fun X dX hX hdX _ => ?_⟩⟩⟩⟩⟩
      have s3 := (smu (o := .tup [.str "r0", .str a, .str "r1"]) ht1).trans ((smu (o := .tup [.str "r1", .str b, .str "r0"]) ht2).trans ((smu (o := .lst [.ref t1, .ref t2]) hq0).trans ((smu (o := .lst [.str "r0", .str "r1"]) hq1))))
      have d1 : (upd (upd (upd (upd H t1 (.tup [.str "r0", .str a, .str "r1"])) t2 (.tup [.str "r1", .str b, .str "r0"])) q0 (.lst [.ref t1, .ref t2])) q1 (.lst [.str "r0", .str "r1"])) t1 = some (.tup [.str (rmN 0), .str a, .str (rmN 1)]) := by simp only [← r0e, ← r1e]; exact smu hq1 _ _ (smu hq0 _ _ (smu ht2 _ _ (upd_same)))
      have d2 : (upd (upd (upd (upd H t1 (.tup [.str "r0", .str a, .str "r1"])) t2 (.tup [.str "r1", .str b, .str "r0"])) q0 (.lst [.ref t1, .ref t2])) q1 (.lst [.str "r0", .str "r1"])) t2 = some (.tup [.str (rmN 1), .str b, .str (rmN 0)]) := by simp only [← r0e, ← r1e]; exact smu hq1 _ _ (smu hq0 _ _ (upd_same))
      have de : (upd (upd (upd (upd H t1 (.tup [.str "r0", .str a, .str "r1"])) t2 (.tup [.str "r1", .str b, .str "r0"])) q0 (.lst [.ref t1, .ref t2])) q1 (.lst [.str "r0", .str "r1"])) q1 = some (.lst ((RK.turns a b).ends.map V.str)) := by
        show _ = some (HO.lst [V.str (rmN 0), V.str (rmN 1)])
        rw [upd_same, ← r0e, ← r1e]
      have dq : (upd (upd (upd (upd H t1 (.tup [.str "r0", .str a, .str "r1"])) t2 (.tup [.str "r1", .str b, .str "r0"])) q0 (.lst [.ref t1, .ref t2])) q1 (.lst [.str "r0", .str "r1"])) q0 = some (.lst [.ref t1, .ref t2]) := smu hq1 _ _ upd_same
      generalize (upd (upd (upd (upd H t1 (.tup [.str "r0", .str a, .str "r1"])) t2 (.tup [.str "r1", .str b, .str "r0"])) q0 (.lst [.ref t1, .ref t2])) q1 (.lst [.str "r0", .str "r1"])) = H5 at s3 de dq hX hdX d1 d2 ⊢
      exact mkM (k := .turns a b) hX hdX hk hg hsh (wSame hW s3) de (DrsL.at (.cons (d1) (.cons (d2) .nil)) dq) (.inl ⟨rfl, rfl⟩) fun H' sm M => ⟨rfl, q X H' (s3.trans sm) M⟩
    | _ => cases hi
noncomputable abbrev N_h : List Str := ["self", "deeds", "doors"]
theorem sc_hM : FnScope N_h ["self", "deeds"] (defScope hMach) := ⟨rfl, rfl, rfl, by decide +kernel, rfl, by decide +kernel, by decide +kernel⟩
theorem ok_hMach {f fMI C CM : Addr} {fd fdMI : FuncData} {Cs : Nat → Addr} (F : Fun K "machine" "Hold.machine" hMach f fd) (RC : RCls K (Cs 4)) (MC : MCls K CM) (GMI : FnOk P w K mg base (CXE P w) 4 fMI fdMI ["self", "deeds", "begin", "ends", "doors", "more"] (spMInit K C CM)) (MMk : Mk K CM fMI) (mMa : mg "Machine" = some (.ref CM)) (bMI1 : Binds K fdMI ["self", "deeds", "begin", "ends", "doors", "more"] [.none]) : FnOk P w K mg base CX0 6 f fd ["self", "deeds"] (spRM C CM Cs 4) := by
  refine F.ok sc_hM (fun vs H Q E h => ?_) (fun cdv A outer s H vs Q E hr h => ?_)
  · obtain ⟨x, dd, k, ss, wk, rfl, _⟩ := h
    rfl
  · obtain ⟨x, dd, k, ss, wk, rfl, hi, ⟨dx, hx⟩, hk, hg, hsh, hW, q⟩ := h
    refine ⟨_, pss_cons (ps_set (i := 2) sc_hM.nd rfl (Or.inl rfl) (pe_lst (pac (pe_tup (pac pe_str (pac (pe_fld (pv 0) rfl) (pac pe_str pa_nil)))) (pac (pe_tup (pac pe_str (pac (pe_fld (pv 0) rfl) (pac pe_str pa_nil)))) (pac (pe_tup (pac pe_str (pac (pe_fld (pv 0) rfl) (pac pe_str pa_nil)))) pa_nil)))))
      (pss_one (ps_ret (pe_make (dvs := [.non]) MMk GMI hr rfl mMa bMI1 (.cons rfl .nil) passF (pac (pv 1) (pac pe_str (pac (pe_lst (pac pe_str (pac pe_str pa_nil))) (pac (pv 2) pa_nil))))))), ?_⟩
    cases k with
    | hold a b =>
      have f1 : (RK.hold a b).flds.lookup ("one" : Str) = some (V.str a) := rfl
      have f2 : (RK.hold a b).flds.lookup ("other" : Str) = some (V.str b) := rfl
      refine ⟨_, rfl, x, Cs 4, dx, _, .str a, rfl, hx, RC.cl, RC.n3, f1, by show 3 ≤ sizeLine; decide, fun t1 ht1 => ⟨_, rfl, x, Cs 4, dx, _, .str b, rfl, smu ht1 _ _ (hx), RC.cl, RC.n4, f2, by show 3 ≤ sizeLine; decide, fun t2 ht2 => ⟨_, rfl, x, Cs 4, dx, _, .str b, rfl, smu ht2 _ _ (smu ht1 _ _ (hx)), RC.cl, RC.n4, f2, by show 3 ≤ sizeLine; decide, fun t3 ht3 => ⟨by show 3 ≤ sizeLine; decide, fun q0 hq0 => ⟨_, rfl, by show 2 ≤ sizeLine; decide, fun q1 hq1 => ⟨_, rfl, fun X dX hX hdX _ => ?_⟩⟩⟩⟩⟩⟩
      have s3 := (smu (o := .tup [.str "r0", .str a, .str "r1"]) ht1).trans ((smu (o := .tup [.str "r0", .str b, .str "r0"]) ht2).trans ((smu (o := .tup [.str "r1", .str b, .str "r0"]) ht3).trans ((smu (o := .lst [.ref t1, .ref t2, .ref t3]) hq0).trans ((smu (o := .lst [.str "r0", .str "r1"]) hq1)))))
      have d1 : (upd (upd (upd (upd (upd H t1 (.tup [.str "r0", .str a, .str "r1"])) t2 (.tup [.str "r0", .str b, .str "r0"])) t3 (.tup [.str "r1", .str b, .str "r0"])) q0 (.lst [.ref t1, .ref t2, .ref t3])) q1 (.lst [.str "r0", .str "r1"])) t1 = some (.tup [.str (rmN 0), .str a, .str (rmN 1)]) := by simp only [← r0e, ← r1e]; exact smu hq1 _ _ (smu hq0 _ _ (smu ht3 _ _ (smu ht2 _ _ (upd_same))))
      have d2 : (upd (upd (upd (upd (upd H t1 (.tup [.str "r0", .str a, .str "r1"])) t2 (.tup [.str "r0", .str b, .str "r0"])) t3 (.tup [.str "r1", .str b, .str "r0"])) q0 (.lst [.ref t1, .ref t2, .ref t3])) q1 (.lst [.str "r0", .str "r1"])) t2 = some (.tup [.str (rmN 0), .str b, .str (rmN 0)]) := by simp only [← r0e, ← r1e]; exact smu hq1 _ _ (smu hq0 _ _ (smu ht3 _ _ (upd_same)))
      have d3 : (upd (upd (upd (upd (upd H t1 (.tup [.str "r0", .str a, .str "r1"])) t2 (.tup [.str "r0", .str b, .str "r0"])) t3 (.tup [.str "r1", .str b, .str "r0"])) q0 (.lst [.ref t1, .ref t2, .ref t3])) q1 (.lst [.str "r0", .str "r1"])) t3 = some (.tup [.str (rmN 1), .str b, .str (rmN 0)]) := by simp only [← r0e, ← r1e]; exact smu hq1 _ _ (smu hq0 _ _ (upd_same))
      have de : (upd (upd (upd (upd (upd H t1 (.tup [.str "r0", .str a, .str "r1"])) t2 (.tup [.str "r0", .str b, .str "r0"])) t3 (.tup [.str "r1", .str b, .str "r0"])) q0 (.lst [.ref t1, .ref t2, .ref t3])) q1 (.lst [.str "r0", .str "r1"])) q1 = some (.lst ((RK.hold a b).ends.map V.str)) := by
        show _ = some (HO.lst [V.str (rmN 0), V.str (rmN 1)])
        rw [upd_same, ← r0e, ← r1e]
      have dq : (upd (upd (upd (upd (upd H t1 (.tup [.str "r0", .str a, .str "r1"])) t2 (.tup [.str "r0", .str b, .str "r0"])) t3 (.tup [.str "r1", .str b, .str "r0"])) q0 (.lst [.ref t1, .ref t2, .ref t3])) q1 (.lst [.str "r0", .str "r1"])) q0 = some (.lst [.ref t1, .ref t2, .ref t3]) := smu hq1 _ _ upd_same
      generalize (upd (upd (upd (upd (upd H t1 (.tup [.str "r0", .str a, .str "r1"])) t2 (.tup [.str "r0", .str b, .str "r0"])) t3 (.tup [.str "r1", .str b, .str "r0"])) q0 (.lst [.ref t1, .ref t2, .ref t3])) q1 (.lst [.str "r0", .str "r1"])) = H5 at s3 de dq hX hdX d1 d2 d3 ⊢
      exact mkM (k := .hold a b) hX hdX hk hg hsh (wSame hW s3) de (DrsL.at (.cons (d1) (.cons (d2) (.cons (d3) .nil))) dq) (.inl ⟨rfl, rfl⟩) fun H' sm M => ⟨rfl, q X H' (s3.trans sm) M⟩
    | _ => cases hi
noncomputable abbrev N_w : List Str := ["self", "deeds", "doors"]
theorem sc_wM : FnScope N_w ["self", "deeds"] (defScope wMach) := ⟨rfl, rfl, rfl, by decide +kernel, rfl, by decide +kernel, by decide +kernel⟩
theorem ok_wMach {f fMI C CM : Addr} {fd fdMI : FuncData} {Cs : Nat → Addr} (F : Fun K "machine" "Answer.machine" wMach f fd) (RC : RCls K (Cs 5)) (MC : MCls K CM) (GMI : FnOk P w K mg base (CXE P w) 4 fMI fdMI ["self", "deeds", "begin", "ends", "doors", "more"] (spMInit K C CM)) (MMk : Mk K CM fMI) (mMa : mg "Machine" = some (.ref CM)) (bMI1 : Binds K fdMI ["self", "deeds", "begin", "ends", "doors", "more"] [.none]) : FnOk P w K mg base CX0 6 f fd ["self", "deeds"] (spRM C CM Cs 5) := by
  refine F.ok sc_wM (fun vs H Q E h => ?_) (fun cdv A outer s H vs Q E hr h => ?_)
  · obtain ⟨x, dd, k, ss, wk, rfl, _⟩ := h
    rfl
  · obtain ⟨x, dd, k, ss, wk, rfl, hi, ⟨dx, hx⟩, hk, hg, hsh, hW, q⟩ := h
    refine ⟨_, pss_cons (ps_set (i := 2) sc_wM.nd rfl (Or.inl rfl) (pe_lst (pac (pe_tup (pac pe_str (pac (pe_fld (pv 0) rfl) (pac pe_str pa_nil)))) (pac (pe_tup (pac pe_str (pac (pe_fld (pv 0) rfl) (pac pe_str pa_nil)))) (pac (pe_tup (pac pe_str (pac (pe_fld (pv 0) rfl) (pac pe_str pa_nil)))) (pac (pe_tup (pac pe_str (pac (pe_fld (pv 0) rfl) (pac pe_str pa_nil)))) pa_nil))))))
      (pss_one (ps_ret (pe_make (dvs := [.non]) MMk GMI hr rfl mMa bMI1 (.cons rfl .nil) passF (pac (pv 1) (pac pe_str (pac (pe_lst (pac pe_str pa_nil)) (pac (pv 2) pa_nil))))))), ?_⟩
    cases k with
    | answer a b =>
      have f1 : (RK.answer a b).flds.lookup ("one" : Str) = some (V.str a) := rfl
      have f2 : (RK.answer a b).flds.lookup ("other" : Str) = some (V.str b) := rfl
      refine ⟨_, rfl, x, Cs 5, dx, _, .str a, rfl, hx, RC.cl, RC.n3, f1, by show 3 ≤ sizeLine; decide, fun t1 ht1 => ⟨_, rfl, x, Cs 5, dx, _, .str b, rfl, smu ht1 _ _ (hx), RC.cl, RC.n4, f2, by show 3 ≤ sizeLine; decide, fun t2 ht2 => ⟨_, rfl, x, Cs 5, dx, _, .str a, rfl, smu ht2 _ _ (smu ht1 _ _ (hx)), RC.cl, RC.n3, f1, by show 3 ≤ sizeLine; decide, fun t3 ht3 => ⟨_, rfl, x, Cs 5, dx, _, .str b, rfl, smu ht3 _ _ (smu ht2 _ _ (smu ht1 _ _ (hx))), RC.cl, RC.n4, f2, by show 3 ≤ sizeLine; decide, fun t4 ht4 => ⟨by show 4 ≤ sizeLine; decide, fun q0 hq0 => ⟨_, rfl, by show 1 ≤ sizeLine; decide, fun q1 hq1 => ⟨_, rfl, fun X dX hX hdX _ => ?_⟩⟩⟩⟩⟩⟩⟩
      have s3 := (smu (o := .tup [.str "r0", .str a, .str "r1"]) ht1).trans ((smu (o := .tup [.str "r0", .str b, .str "r0"]) ht2).trans ((smu (o := .tup [.str "r1", .str a, .str "r1"]) ht3).trans ((smu (o := .tup [.str "r1", .str b, .str "r0"]) ht4).trans ((smu (o := .lst [.ref t1, .ref t2, .ref t3, .ref t4]) hq0).trans ((smu (o := .lst [.str "r0"]) hq1))))))
      have d1 : (upd (upd (upd (upd (upd (upd H t1 (.tup [.str "r0", .str a, .str "r1"])) t2 (.tup [.str "r0", .str b, .str "r0"])) t3 (.tup [.str "r1", .str a, .str "r1"])) t4 (.tup [.str "r1", .str b, .str "r0"])) q0 (.lst [.ref t1, .ref t2, .ref t3, .ref t4])) q1 (.lst [.str "r0"])) t1 = some (.tup [.str (rmN 0), .str a, .str (rmN 1)]) := by simp only [← r0e, ← r1e]; exact smu hq1 _ _ (smu hq0 _ _ (smu ht4 _ _ (smu ht3 _ _ (smu ht2 _ _ (upd_same)))))
      have d2 : (upd (upd (upd (upd (upd (upd H t1 (.tup [.str "r0", .str a, .str "r1"])) t2 (.tup [.str "r0", .str b, .str "r0"])) t3 (.tup [.str "r1", .str a, .str "r1"])) t4 (.tup [.str "r1", .str b, .str "r0"])) q0 (.lst [.ref t1, .ref t2, .ref t3, .ref t4])) q1 (.lst [.str "r0"])) t2 = some (.tup [.str (rmN 0), .str b, .str (rmN 0)]) := by simp only [← r0e, ← r1e]; exact smu hq1 _ _ (smu hq0 _ _ (smu ht4 _ _ (smu ht3 _ _ (upd_same))))
      have d3 : (upd (upd (upd (upd (upd (upd H t1 (.tup [.str "r0", .str a, .str "r1"])) t2 (.tup [.str "r0", .str b, .str "r0"])) t3 (.tup [.str "r1", .str a, .str "r1"])) t4 (.tup [.str "r1", .str b, .str "r0"])) q0 (.lst [.ref t1, .ref t2, .ref t3, .ref t4])) q1 (.lst [.str "r0"])) t3 = some (.tup [.str (rmN 1), .str a, .str (rmN 1)]) := by simp only [← r0e, ← r1e]; exact smu hq1 _ _ (smu hq0 _ _ (smu ht4 _ _ (upd_same)))
      have d4 : (upd (upd (upd (upd (upd (upd H t1 (.tup [.str "r0", .str a, .str "r1"])) t2 (.tup [.str "r0", .str b, .str "r0"])) t3 (.tup [.str "r1", .str a, .str "r1"])) t4 (.tup [.str "r1", .str b, .str "r0"])) q0 (.lst [.ref t1, .ref t2, .ref t3, .ref t4])) q1 (.lst [.str "r0"])) t4 = some (.tup [.str (rmN 1), .str b, .str (rmN 0)]) := by simp only [← r0e, ← r1e]; exact smu hq1 _ _ (smu hq0 _ _ (upd_same))
      have de : (upd (upd (upd (upd (upd (upd H t1 (.tup [.str "r0", .str a, .str "r1"])) t2 (.tup [.str "r0", .str b, .str "r0"])) t3 (.tup [.str "r1", .str a, .str "r1"])) t4 (.tup [.str "r1", .str b, .str "r0"])) q0 (.lst [.ref t1, .ref t2, .ref t3, .ref t4])) q1 (.lst [.str "r0"])) q1 = some (.lst ((RK.answer a b).ends.map V.str)) := by
        show _ = some (HO.lst [V.str (rmN 0)])
        rw [upd_same, ← r0e]
      have dq : (upd (upd (upd (upd (upd (upd H t1 (.tup [.str "r0", .str a, .str "r1"])) t2 (.tup [.str "r0", .str b, .str "r0"])) t3 (.tup [.str "r1", .str a, .str "r1"])) t4 (.tup [.str "r1", .str b, .str "r0"])) q0 (.lst [.ref t1, .ref t2, .ref t3, .ref t4])) q1 (.lst [.str "r0"])) q0 = some (.lst [.ref t1, .ref t2, .ref t3, .ref t4]) := smu hq1 _ _ upd_same
      generalize (upd (upd (upd (upd (upd (upd H t1 (.tup [.str "r0", .str a, .str "r1"])) t2 (.tup [.str "r0", .str b, .str "r0"])) t3 (.tup [.str "r1", .str a, .str "r1"])) t4 (.tup [.str "r1", .str b, .str "r0"])) q0 (.lst [.ref t1, .ref t2, .ref t3, .ref t4])) q1 (.lst [.str "r0"])) = H5 at s3 de dq hX hdX d1 d2 d3 d4 ⊢
      exact mkM (k := .answer a b) hX hdX hk hg hsh (wSame hW s3) de (DrsL.at (.cons (d1) (.cons (d2) (.cons (d3) (.cons (d4) .nil)))) dq) (.inl ⟨rfl, rfl⟩) fun H' sm M => ⟨rfl, q X H' (s3.trans sm) M⟩
    | _ => cases hi
end
end K32
namespace K32
open PySem L2 Ky
seal L2.PE L2.PS L2.PSs L2.PA L2.PT L2.PW L2.PG L2.PI L2.PTs L2.PO L2.OpR L2.IxR L2.CallR L2.MtM L2.MtR
unseal L2.MtM L2.MtR
theorem drs_put {H : Hp} {D : Addr} {xs ys : List V} {vs : List V} {ds : List Dr} (h : DrsL H vs ds) (hD : H D = some (.lst xs)) : DrsL (upd H D (.lst ys)) vs ds := by
  induction h with
  | nil => exact .nil
  | cons h r ih => exact .cons (by rw [upd_ne (fun z => by rw [z, hD] at h; cases h)]; exact h) ih
theorem rmap_len (m : Nat) : (((List.range m).map rmN).map V.str).length = m := by rw [List.length_map, List.length_map, List.length_range]
theorem atR {m i : Nat} (h : i < m) {j : Int} (hj : j = i) : atI (((List.range m).map rmN).map V.str) j = some (.str (rmN i)) := by
  have := atI_getD V.str ((List.range m).map rmN) "" (i := (i : Int)) (by omega) (by rw [List.length_map, List.length_range]; omega)
  rw [hj, this, List.getD_eq_getElem?_getD, Int.toNat_natCast, List.getElem?_map, List.getElem?_range h]
  rfl
theorem rm_len {i : Nat} (h : i < 8) : (rmN i).length ≤ 8 := name_len (rm_name h)
theorem log8 : ∀ k, k < 8 → (0 + ((k : Nat) : Int)).natAbs.log2 < 1920 := by decide +kernel
section
variable {P : Program} {w : World} {K : PySem.W.Frag} {mg : Str → Option Value} {base : Heap}
noncomputable abbrev NoM : List Str := ["self", "deeds", "rooms", "doors"]
theorem sc_oM : FnScope NoM ["self", "deeds"] (defScope oMach) := ⟨rfl, rfl, rfl, by decide +kernel, rfl, by decide +kernel, by decide +kernel⟩
noncomputable abbrev nd6 : List Str := ["times", "rooms", "self"]
theorem ok_oMach {f fA fMI C CM : Addr} {fd fdA fdMI : FuncData} {Cs : Nat → Addr} (F : Fun K "machine" "Most.machine" oMach f fd) (T : Txt K mg) (RC : RCls K (Cs 1)) (MC : MCls K CM) (GMI : FnOk P w K mg base (CXE P w) 4 fMI fdMI ["self", "deeds", "begin", "ends", "doors", "more"] (spMInit K C CM)) (MMk : Mk K CM fMI) (mMa : mg "Machine" = some (.ref CM)) (bMI : Binds K fdMI ["self", "deeds", "begin", "ends", "doors", "more"] [])
    (GA : FnOk P w K mg base CX0 1 fA fdA ["self"] (spAboutM Cs 1)) (bA : Binds K fdA ["self"] []) (mA : Meth K (Cs 1) "about" fA) : FnOk P w K mg base CX0 6 f fd ["self", "deeds"] (spRM C CM Cs 1) := by
  refine F.ok sc_oM (fun vs H Q E h => ?_) (fun cdv A outer s H vs Q E hr h => ?_)
  · obtain ⟨x, dd, k, ss, wk, rfl, _⟩ := h
    rfl
  · obtain ⟨x, dd, k, ss, wk, rfl, hi, ⟨dx, hx⟩, hk, hg, hsh, hW, q⟩ := h
    have hr1 : Room 1 _ := hr.mono (by decide)
    refine ⟨_, pss_cons (ps_set (i := 2) sc_oM.nd rfl (Or.inr rfl) (pe_comp (N' := ["times"]) (nown := 1) (js := []) rfl ⟨rfl, by decide +kernel, by decide +kernel⟩ (blkNames (defScope oMach) NoM rfl rfl (by decide +kernel))
        ⟨fun _ _ _ _ => pg_name (i := 0) (show List.Nodup (["times"] : List Str) by decide +kernel) rfl (Or.inl rfl) (.inr rfl), fun _ _ _ _ => pts_nil, fun _ _ _ _ => pe_join2 pe_str (pe_fmtI (pv 0))⟩
        (pi_range1 rfl T.range (pac (pe_op op_add (pe_fld (pv 0) rfl) pe_int) pa_nil))))
      (pss_cons (ps_setcomp (i := 3) (N' := nd6) (nown := 1) (js := [2, 0]) rfl sc_oM.nd rfl rfl rfl ⟨rfl, by decide +kernel, by decide +kernel⟩ (blkNames (defScope oMach) NoM rfl rfl (by decide +kernel))
        ⟨fun _ _ _ _ => pg_name (i := 0) (show List.Nodup nd6 by decide +kernel) rfl (Or.inl rfl) (.inr rfl), fun _ _ _ _ => pts_nil,
          fun _ _ _ _ => pe_tup (pac (pe_ix (show IxR _ (rIxL K) from ix_list) (pv 1) (pv 0) (fun _ _ => rfl)) (pac (show PE _ _ (tFld K (tVar 2) "deed") from pe_fld (pv 2) rfl) (pac (pe_ix (show IxR _ (rIxL K) from ix_list) (pv 1) (pe_op op_add (pv 0) pe_int) (fun _ _ => rfl)) pa_nil)))⟩
        (pi_range1 rfl T.range (pac (pe_fld (pv 0) rfl) pa_nil)))
      (pss_one (ps_ret (pe_make MMk GMI hr rfl mMa bMI .nil passF (pac (pv 1) (pac pe_str (pac (pv 2) (pac (pv 3) (pac (pe_meth0 (pv 0) RC.cl mA GA hr1 bA .nil pass0) pa_nil))))))))), ?_⟩
    cases k with
    | most a n =>
      have hn : n ≤ 6 := hk.2
      refine ⟨_, rfl, x, Cs 1, dx, _, .int n, rfl, hx, RC.cl, RC.n2, rfl, _, _, rfl, rfl, ((n + 1 : Nat) : Int), rfl, by omega, by omega, fun D hD => blk_range (n := n + 1) (lo := 0) (fun i σ' H' => ∃ v, σ' = [v] ∧ H' D = some (.lst (((List.range i).map rmN).map V.str)) ∧ Same H H') ?_ ?_ ?_⟩
      · exact ⟨none, rfl, upd_same, smu hD⟩
      · rintro i σ' H' hi' ⟨v, rfl, h1, h2⟩
        have hl := rm_len (show i < 8 by omega)
        have sl : sizeLine = 16777216 := sizeLine_eq
        refine ⟨_, rfl, by rw [len_cat]; show 0 + 1 ≤ sizeLine; decide, _, rfl, _, rfl, log8 i (by omega), _, rfl, ?_, ?_, _, h1, small1000 (by rw [rmap_len]; omega), _, rfl, ?_, fun b o e => ?_⟩
        · exact Nat.le_trans hl (by decide)
        · exact Nat.le_trans hl (by decide)
        · rw [upd_same, List.range_succ, List.map_append, List.map_append]
          rfl
        · rw [upd_ne (ne_of_none e hD)]
          exact h2 _ _ e
      rintro σ' H1 ⟨v, rfl, h1, s1⟩
      have hx1 := s1 _ _ hx
      refine ⟨_, rfl, x, Cs 1, dx, _, .int n, rfl, hx1, RC.cl, RC.n2, rfl, (n : Int), rfl, by omega, by omega, fun D2 hD2 => blk_range (n := n) (lo := 0) (fun i σ' H' => ∃ v, σ' = [v, some (.ref D), some (.ref x)] ∧ (∃ vs, H' D2 = some (.lst vs) ∧ DrsL H' vs ((List.range i).map fun i => (rmN i, a, rmN (i + 1)))) ∧ ∀ b o, b ≠ D2 → H1 b = some o → H' b = some o) ?_ ?_ ?_⟩
      · exact ⟨none, rfl, ⟨[], upd_same, .nil⟩, fun b o n e => by rw [upd_ne n]; exact e⟩
      · rintro i σ' H' hi' ⟨v, rfl, ⟨vs, hv, hL⟩, kp⟩
        have hxD : x ≠ D2 := ne_of_none hx1 hD2
        have hDD : D ≠ D2 := ne_of_none h1 hD2
        refine ⟨_, rfl, _, rfl, D, _, _, .str (rmN i), rfl, rfl, SqL.of (kp _ _ hDD h1), atR (by omega) (by omega), _, rfl, x, Cs 1, dx, _, .str a, rfl, kp _ _ hxD hx1, RC.cl, RC.n1, rfl, _, rfl, _, rfl, _, _, rfl, rfl, D, _, _, .str (rmN (i + 1)), rfl, rfl, SqL.of (kp _ _ hDD h1), atR (by omega) (by omega), by show 3 ≤ sizeLine; decide, fun t ht => ?_⟩
        have hv' := smu (o := .tup [.str (rmN i), .str a, .str (rmN (i + 1))]) ht _ _ hv
        refine ⟨_, hv', small1000 (by rw [hL.len, List.length_map, List.length_range]; omega), _, rfl, ⟨vs ++ [.ref t], upd_same, ?_⟩, fun b o n e => ?_⟩
        · rw [List.range_succ, List.map_append]
          exact drs_put ((hL.same (smu ht)).append (.cons (x := (rmN i, a, rmN (i + 1))) upd_same .nil)) hv'
        · rw [upd_ne n]
          exact smu ht _ _ (kp b o n e)
      rintro σ' H2 ⟨v, rfl, ⟨vs, hv, hL⟩, kp⟩
      have s12 : Same H H2 := fun b o e => kp b o (fun z => by rw [z] at e; rw [s1 _ _ e] at hD2; cases hD2) (s1 _ _ e)
      have hDD : D ≠ D2 := ne_of_none h1 hD2
      refine ⟨_, rfl, _, rfl, _, rfl, _, rfl, x, dx, _, rfl, s12 _ _ hx, flds_mth (.most a n) "about" (by decide), x, .most a n, rfl, rfl, ⟨dx, s12 _ _ hx⟩, fun l hl X dX hX hdX _ => ?_⟩
      have s3 := s12.trans (smu (o := .lst [.str a]) hl)
      exact mkM (k := .most a n) hX hdX hk hg hsh (wSame hW s3) (smu hl _ _ (kp _ _ hDD h1)) ((hL.at hv).same (smu hl)) (.inr ⟨l, rfl, upd_same⟩) fun H' sm M => ⟨rfl, q X H' (s3.trans sm) M⟩
    | _ => cases hi
theorem idx6 (k : RK) : k.idx < 6 := by cases k <;> simp [RK.idx]
inductive spKeeps (K : PySem.W.Frag) (C : Addr) (Cs : Nat → Addr) (vs : List V) (H : Hp) (Q : VK) (E : XK) : Prop
  | mk (x dd r : Addr) (k : RK) (ss row : List Str) (wk : List (Key × V)) (h0_ : vs = [.ref x, .ref dd, .ref r]) (h1_ : RuleAt Cs H x k) (h2_ : k.Ok ss) (h3_ : ∀ z ∈ ss, goodV wk (.str z) = true) (h4_ : Short ss) (h5_ : WAt C H dd wk) (h6_ : SqL K H r (row.map V.str)) (h7_ : ∀ z ∈ row, z ∈ ss)
    (h8_ : ∀ H', Same H H' → Q (.bl (k.due 0 row).isSome) H')
theorem scKe : FnScope ["rule", "deeds", "row"] ["rule", "deeds", "row"] (defScope sKeeps) := ⟨rfl, rfl, rfl, by decide +kernel, rfl, by decide +kernel, by decide +kernel⟩
theorem ok_keeps {f fBh C CM : Addr} {fd fdBh : FuncData} {cl : Why → Addr} {Cs : Nat → Addr} {fs : Fin 6 → Addr} {fds : Fin 6 → FuncData} (F : Fun K "keeps" "keeps" sKeeps f fd) (DC : DCls K C) (MC : MCls K CM) (RC : ∀ i : Fin 6, RCls K (Cs i))
    (GM : ∀ i : Fin 6, FnOk P w K mg base CX0 6 (fs i) (fds i) ["self", "deeds"] (spRM C CM Cs i)) (bM : ∀ i : Fin 6, Binds K (fds i) ["self", "deeds"] []) (mM : ∀ i : Fin 6, Meth K (Cs i) "machine" (fs i))
    (GB : FnOk P w K mg base (CXE P w) 4 fBh fdBh ["self", "row"] (spMBehind K C CM cl)) (bB : Binds K fdBh ["self", "row"] []) (mB : Meth K CM "behind" fBh) : FnOk P w K mg base CX0 7 f fd ["rule", "deeds", "row"] (spKeeps K C Cs) := by
  refine F.ok scKe (fun vs H Q E h => ?_) (fun cdv A outer s H vs Q E hr h => ?_)
  · obtain ⟨x, dd, r, k, ss, row, wk, rfl, _⟩ := h
    rfl
  · obtain ⟨x, dd, r, k, ss, row, wk, rfl, ⟨dx, hx⟩, hk, hg, hsh, hW, hS, hin, q⟩ := h
    have hr4 : Room 4 _ := hr.mono (by decide)
    refine ⟨_, pss_one (ps_ret (pe_cmpR op_notN (pe_meth (pe_methP (Cs := fun i : Fin 6 => Cs i) (fds := fds) (sps := fun i : Fin 6 => spRM C CM Cs i) (pv 0) (fun i => (RC i).cl) mM GM hr bM pass0 (pac (pv 1) pa_nil)) MC.cl mB GB hr4 bB .nil passF (pac (pv 2) pa_nil)) pe_non (nomark _))), ?_⟩
    refine ⟨_, rfl, ⟨k.idx, idx6 k⟩, x, dx, _, rfl, hx, flds_mth k "machine" (by decide), _, rfl, x, dd, k, ss, wk, rfl, rfl, ⟨dx, hx⟩, hk, hg, hsh, hW, fun X H1 s1 M1 => ?_⟩
    obtain ⟨dX, lM, eM, kM, kv, g, M⟩ := M1
    have R := rule_m k hk
    refine ⟨X, dX, _, rfl, M.ins, mFlds_mth _ _ _ _ _ _ (by decide), _, rfl, X, dd, r, rmN 0, k.ends, k.kn, row, k.doors, wk, rfl, ⟨dX, lM, eM, kM, kv, g, M⟩, wSame hW s1, s1.seq hS, fun z hz => hsh z (hin z hz), R.nm, fun H2 s2 => ?_⟩
    rw [if_pos (List.all_eq_true.mpr fun v hv => by
      obtain ⟨z, hz, rfl⟩ := List.mem_map.mp hv
      exact hg z (hin z hz))]
    have := q H2 (s1.trans s2)
    have wd := (walk_due k hk row 0 (Nat.zero_le _)).1
    rw [wd]
    cases e : k.due 0 row with
    | none => rw [e] at this; exact ⟨rfl, this⟩
    | some z => rw [e] at this; exact ⟨rfl, this⟩
end
end K32
namespace K32
open PySem L2 Ky
seal L2.PE L2.PS L2.PSs L2.PA L2.PT L2.PW L2.PG L2.PI L2.PTs L2.PO L2.OpR L2.IxR L2.CallR L2.MtM L2.MtR
unseal L2.MtM L2.MtR
theorem ifT {a b : Str} {p q : Prop} (h : a = b) (x : p) : if decide (V.str a = V.str b) = true then p else q := by rw [h, if_pos (decide_eq_true rfl)]; exact x
theorem ifF {a b : Str} {p q : Prop} (h : a ≠ b) (x : q) : if decide (V.str a = V.str b) = true then p else q := by rw [if_neg (fun z => h (V.str.inj (of_decide_eq_true z)))]; exact x
theorem flat_strs (fs : List Str) : (fs.map V.str).all flatV = true := by
  rw [List.all_map, List.all_eq_true]
  intro z _
  rfl
theorem inV_str (z : Str) (fs : List Str) : inV (.str z) (fs.map V.str) = decide (z ∈ fs) := by
  have e : ∀ y : Str, eqV (.str y) (.str z) = (y == z) := fun _ => rfl
  unfold inV
  rw [List.any_map, Bool.eq_iff_iff, List.any_eq_true, decide_eq_true_iff]
  constructor
  · rintro ⟨y, hy, h⟩
    have h' : (y == z) = true := h
    rw [← eq_of_beq h']; exact hy
  · exact fun h => ⟨z, h, (e z).trans (beq_self_eq_true z)⟩
theorem at0 (k : RK) : atI k.words 0 = some (.str k.word) := by cases k <;> rfl
theorem at1 (k : RK) : atI k.words 1 = some (.str k.one) := by cases k <;> rfl
inductive spRuleOf (K : PySem.W.Frag) (Cs : Nat → Addr) (vs : List V) (H : Hp) (Q : VK) (E : XK) : Prop
  | mk (t : Addr) (k : RK) (ss : List Str) (h0_ : vs = [.ref t]) (h1_ : H t = some (.tup k.words)) (h2_ : k.Ok ss) (h3_ : ∀ X H', Same H H' → RuleAt Cs H' X k → Q (.ref X) H')
section
variable {P : Program} {w : World} {K : PySem.W.Frag} {mg : Str → Option Value} {base : Heap}
theorem scRO : FnScope ["_law_row_here"] ["_law_row_here"] (defScope sRuleOf) := ⟨rfl, rfl, rfl, by decide +kernel, rfl, by decide +kernel, by decide +kernel⟩
theorem ok_ruleOf {f fN fO fA fU fH fW : Addr} {fd fdN fdO fdA fdU fdH fdW : FuncData} {Cs : Nat → Addr} (F : Fun K "_law_rule_of" "_law_rule_of" sRuleOf f fd) (RC : ∀ i : Fin 6, RCls K (Cs i))
    (GN : FnOk P w K mg base CX0 1 fN fdN ["self", "deed"] (spNeverI (Cs 0))) (MN : Mk K (Cs 0) fN) (bN : Binds K fdN ["self", "deed"] []) (mN : mg "Never" = some (.ref (Cs 0)))
    (GO : FnOk P w K mg base CX0 2 fO fdO ["self", "deed", "many"] (spMostI (Cs 1))) (MO : Mk K (Cs 1) fO) (bO : Binds K fdO ["self", "deed", "many"] []) (mO : mg "Most" = some (.ref (Cs 1)))
    (GA : FnOk P w K mg base CX0 2 fA fdA ["self", "first", "later"] (spTwoI K)) (MA : Mk K (Cs 2) fA) (bA : Binds K fdA ["self", "first", "later"] []) (mA : mg "Ahead" = some (.ref (Cs 2)))
    (GU : FnOk P w K mg base CX0 2 fU fdU ["self", "one", "other"] (spTwoI K)) (MU : Mk K (Cs 3) fU) (bU : Binds K fdU ["self", "one", "other"] []) (mU : mg "Turns" = some (.ref (Cs 3)))
    (GH : FnOk P w K mg base CX0 2 fH fdH ["self", "deed", "other"] (spTwoI K)) (MH : Mk K (Cs 4) fH) (bH : Binds K fdH ["self", "deed", "other"] []) (mH : mg "Hold" = some (.ref (Cs 4)))
    (GW : FnOk P w K mg base CX0 2 fW fdW ["self", "deed", "other"] (spTwoI K)) (MW : Mk K (Cs 5) fW) (bW : Binds K fdW ["self", "deed", "other"] []) (mW : mg "Answer" = some (.ref (Cs 5))) : FnOk P w K mg base CX0 4 f fd ["_law_row_here"] (spRuleOf K Cs) := by
  refine F.ok scRO (fun vs H Q E h => ?_) (fun cdv A outer s H vs Q E hr h => ?_)
  · obtain ⟨t, k, ss, rfl, _⟩ := h
    rfl
  · obtain ⟨t, k, ss, rfl, ht, hk, q⟩ := h
    have hr2 : Room 2 _ := hr.mono (by decide)
    refine ⟨_, pss_cons (ps_if (pt_cmpR op_eq (pe_ix ix_tup (pv 0) pe_int (fun _ _ => rfl)) pe_str (nomark _)) (pss_one (ps_ret (pe_make MN GN hr2 rfl mN bN .nil pass0 (pac (pe_ix ix_tup (pv 0) pe_int (fun _ _ => rfl)) pa_nil)))) pss_nil)
      (pss_cons (ps_if (pt_cmpR op_eq (pe_ix ix_tup (pv 0) pe_int (fun _ _ => rfl)) pe_str (nomark _)) (pss_one (ps_ret (pe_make MO GO hr rfl mO bO .nil pass0 (pac (pe_ix ix_tup (pv 0) pe_int (fun _ _ => rfl)) (pac (pe_ix ix_tup (pv 0) pe_int (fun _ _ => rfl)) pa_nil))))) pss_nil)
      (pss_cons (ps_if (pt_cmpR op_eq (pe_ix ix_tup (pv 0) pe_int (fun _ _ => rfl)) pe_str (nomark _)) (pss_one (ps_ret (pe_make MA GA hr rfl mA bA .nil pass0 (pac (pe_ix ix_tup (pv 0) pe_int (fun _ _ => rfl)) (pac (pe_ix ix_tup (pv 0) pe_int (fun _ _ => rfl)) pa_nil))))) pss_nil)
      (pss_cons (ps_if (pt_cmpR op_eq (pe_ix ix_tup (pv 0) pe_int (fun _ _ => rfl)) pe_str (nomark _)) (pss_one (ps_ret (pe_make MU GU hr rfl mU bU .nil pass0 (pac (pe_ix ix_tup (pv 0) pe_int (fun _ _ => rfl)) (pac (pe_ix ix_tup (pv 0) pe_int (fun _ _ => rfl)) pa_nil))))) pss_nil)
      (pss_cons (ps_if (pt_cmpR op_eq (pe_ix ix_tup (pv 0) pe_int (fun _ _ => rfl)) pe_str (nomark _)) (pss_one (ps_ret (pe_make MH GH hr rfl mH bH .nil pass0 (pac (pe_ix ix_tup (pv 0) pe_int (fun _ _ => rfl)) (pac (pe_ix ix_tup (pv 0) pe_int (fun _ _ => rfl)) pa_nil))))) pss_nil)
      (pss_one (ps_ret (pe_make MW GW hr rfl mW bW .nil pass0 (pac (pe_ix ix_tup (pv 0) pe_int (fun _ _ => rfl)) (pac (pe_ix ix_tup (pv 0) pe_int (fun _ _ => rfl)) pa_nil))))))))), ?_⟩
    have fin : ∀ {X dX C : Addr} {H' : Hp} {fl : List (Str × V)}, H X = none → H dX = none → SameBut X (upd (upd H dX (.own X)) X (.ins C dX [])) H' → Same H H' := fun {X dX C H' fl} hX hdX sb b o e => sb b o (ne_of_none e hX) (by rw [upd_ne (ne_of_none e hX), upd_ne (ne_of_none e hdX)]; exact e)
    cases k with
    | never a =>
      exact ⟨_, rfl, t, _, _, .str "never", rfl, rfl, SqT.of ht, rfl, rfl, _, rfl, ifT rfl ⟨_, rfl, t, _, _, .str a, rfl, rfl, SqT.of ht, rfl, fun X dX hX hdX _ => ⟨X, dX, a, rfl, upd_same, fun H' sb hx => ⟨rfl, q X H' (fin (fl := []) hX hdX sb) ⟨dX, hx⟩⟩⟩⟩⟩
    | most a n =>
      exact ⟨_, rfl, t, _, _, .str "most", rfl, rfl, SqT.of ht, rfl, rfl, _, rfl, ifF (by decide +kernel) ⟨_, rfl, t, _, _, .str "most", rfl, rfl, SqT.of ht, rfl, rfl, _, rfl, ifT rfl ⟨_, rfl, t, _, _, .str a, rfl, rfl, SqT.of ht, rfl, _, rfl, t, _, _, .int n, rfl, rfl, SqT.of ht, rfl, fun X dX hX hdX _ => ⟨X, dX, a, n, rfl, hk.2, upd_same, fun H' sb hx => ⟨rfl, q X H' (fin (fl := []) hX hdX sb) ⟨dX, hx⟩⟩⟩⟩⟩⟩
    | ahead a b =>
      exact ⟨_, rfl, t, _, _, .str "ahead", rfl, rfl, SqT.of ht, rfl, rfl, _, rfl, ifF (by decide +kernel) ⟨_, rfl, t, _, _, .str "ahead", rfl, rfl, SqT.of ht, rfl, rfl, _, rfl, ifF (by decide +kernel) ⟨_, rfl, t, _, _, .str "ahead", rfl, rfl, SqT.of ht, rfl, rfl, _, rfl, ifT rfl ⟨_, rfl, t, _, _, .str a, rfl, rfl, SqT.of ht, rfl, _, rfl, t, _, _, .str b, rfl, rfl, SqT.of ht, rfl, fun X dX hX hdX _ => ⟨X, dX, Cs 2, a, b, rfl, hk.2.2, RC ⟨2, by decide⟩, upd_same, fun H' sb hx => ⟨rfl, q X H' (fin (fl := []) hX hdX sb) ⟨dX, hx⟩⟩⟩⟩⟩⟩⟩
    | turns a b =>
      exact ⟨_, rfl, t, _, _, .str "turns", rfl, rfl, SqT.of ht, rfl, rfl, _, rfl, ifF (by decide +kernel) ⟨_, rfl, t, _, _, .str "turns", rfl, rfl, SqT.of ht, rfl, rfl, _, rfl, ifF (by decide +kernel) ⟨_, rfl, t, _, _, .str "turns", rfl, rfl, SqT.of ht, rfl, rfl, _, rfl, ifF (by decide +kernel) ⟨_, rfl, t, _, _, .str "turns", rfl, rfl, SqT.of ht, rfl, rfl, _, rfl, ifT rfl ⟨_, rfl, t, _, _, .str a, rfl, rfl, SqT.of ht, rfl, _, rfl, t, _, _, .str b, rfl, rfl, SqT.of ht, rfl, fun X dX hX hdX _ => ⟨X, dX, Cs 3, a, b, rfl, hk.2.2, RC ⟨3, by decide⟩, upd_same, fun H' sb hx => ⟨rfl, q X H' (fin (fl := []) hX hdX sb) ⟨dX, hx⟩⟩⟩⟩⟩⟩⟩⟩
    | hold a b =>
      exact ⟨_, rfl, t, _, _, .str "hold", rfl, rfl, SqT.of ht, rfl, rfl, _, rfl, ifF (by decide +kernel) ⟨_, rfl, t, _, _, .str "hold", rfl, rfl, SqT.of ht, rfl, rfl, _, rfl, ifF (by decide +kernel) ⟨_, rfl, t, _, _, .str "hold", rfl, rfl, SqT.of ht, rfl, rfl, _, rfl, ifF (by decide +kernel) ⟨_, rfl, t, _, _, .str "hold", rfl, rfl, SqT.of ht, rfl, rfl, _, rfl, ifF (by decide +kernel) ⟨_, rfl, t, _, _, .str "hold", rfl, rfl, SqT.of ht, rfl, rfl, _, rfl, ifT rfl ⟨_, rfl, t, _, _, .str a, rfl, rfl, SqT.of ht, rfl, _, rfl, t, _, _, .str b, rfl, rfl, SqT.of ht, rfl, fun X dX hX hdX _ => ⟨X, dX, Cs 4, a, b, rfl, hk.2.2, RC ⟨4, by decide⟩, upd_same, fun H' sb hx => ⟨rfl, q X H' (fin (fl := []) hX hdX sb) ⟨dX, hx⟩⟩⟩⟩⟩⟩⟩⟩⟩
    | answer a b =>
      exact ⟨_, rfl, t, _, _, .str "answer", rfl, rfl, SqT.of ht, rfl, rfl, _, rfl, ifF (by decide +kernel) ⟨_, rfl, t, _, _, .str "answer", rfl, rfl, SqT.of ht, rfl, rfl, _, rfl, ifF (by decide +kernel) ⟨_, rfl, t, _, _, .str "answer", rfl, rfl, SqT.of ht, rfl, rfl, _, rfl, ifF (by decide +kernel) ⟨_, rfl, t, _, _, .str "answer", rfl, rfl, SqT.of ht, rfl, rfl, _, rfl, ifF (by decide +kernel) ⟨_, rfl, t, _, _, .str "answer", rfl, rfl, SqT.of ht, rfl, rfl, _, rfl, ifF (by decide +kernel) ⟨_, rfl, t, _, _, .str a, rfl, rfl, SqT.of ht, rfl, _, rfl, t, _, _, .str b, rfl, rfl, SqT.of ht, rfl, fun X dX hX hdX _ => ⟨X, dX, Cs 5, a, b, rfl, hk.2.2, RC ⟨5, by decide⟩, upd_same, fun H' sb hx => ⟨rfl, q X H' (fin (fl := []) hX hdX sb) ⟨dX, hx⟩⟩⟩⟩⟩⟩⟩⟩⟩
inductive spAboutL (vs : List V) (H : Hp) (Q : VK) (E : XK) : Prop
  | mk (t : Addr) (k : RK) (h0_ : vs = [.ref t]) (h1_ : H t = some (.tup k.words)) (h2_ : ∀ l H', Same H H' → H l = none → H' l = some (.lst (k.about.map V.str)) → Q (.ref l) H')
theorem scAL : FnScope ["_law_rule"] ["_law_rule"] (defScope sAboutL) := ⟨rfl, rfl, rfl, by decide +kernel, rfl, by decide +kernel, by decide +kernel⟩
theorem ok_aboutL {f : Addr} {fd : FuncData} (F : Fun K "_law_about" "_law_about" sAboutL f fd) : FnOk P w K mg base CX0 1 f fd ["_law_rule"] spAboutL := by
  refine F.ok scAL (fun vs H Q E h => ?_) (fun cdv A outer s H vs Q E hr h => ?_)
  · obtain ⟨t, k, rfl, _⟩ := h
    rfl
  · obtain ⟨t, k, rfl, ht, q⟩ := h
    refine ⟨_, pss_cons (ps_if (pt_cmpR (show OpR _ _ (rIn K false) from op_in_seq) (pe_ix ix_tup (pv 0) pe_int (fun _ _ => rfl)) (pe_tup (pac pe_str (pac pe_str pa_nil))) (by with_unfolding_all rfl)) (pss_one (ps_ret (pe_lst (pac (pe_ix ix_tup (pv 0) pe_int (fun _ _ => rfl)) pa_nil)))) pss_nil)
      (pss_one (ps_ret (pe_lst (pac (pe_ix ix_tup (pv 0) pe_int (fun _ _ => rfl)) (pac (pe_ix ix_tup (pv 0) pe_int (fun _ _ => rfl)) pa_nil))))), ?_⟩
    refine ⟨_, rfl, t, _, _, .str k.word, rfl, rfl, SqT.of ht, at0 k, by show 2 ≤ sizeLine; decide, fun p hp => ⟨p, _, rfl, .inr (SqT.of upd_same), rfl, rfl, _, rfl, ?_⟩⟩
    have ht1 := smu (o := .tup [.str "never", .str "most"]) hp _ _ ht
    have e : inV (.str k.word) [.str "never", .str "most"] = decide (k.word = "never" ∨ k.word = "most") := by
      rw [show ([.str "never", .str "most"] : List V) = (["never", "most"] : List Str).map V.str from rfl, inV_str]
      simp
    show if inV (.str k.word) [.str "never", .str "most"] = true then _ else _
    rw [e]
    have w : ∀ {z : Str}, z = "ahead" ∨ z = "turns" ∨ z = "hold" ∨ z = "answer" → ¬ (z = "never" ∨ z = "most") := by
      rintro z (rfl | rfl | rfl | rfl) <;> decide +kernel
    cases k with
    | never a =>
      rw [if_pos (decide_eq_true (.inl rfl))]
      exact ⟨_, rfl, t, _, _, .str a, rfl, rfl, SqT.of ht1, rfl, by show 1 ≤ sizeLine; decide, fun l hl => q l _ ((smu hp).trans (smu hl)) ((smu hp).free hl) upd_same⟩
    | most a n =>
      rw [if_pos (decide_eq_true (.inr rfl))]
      exact ⟨_, rfl, t, _, _, .str a, rfl, rfl, SqT.of ht1, rfl, by show 1 ≤ sizeLine; decide, fun l hl => q l _ ((smu hp).trans (smu hl)) ((smu hp).free hl) upd_same⟩
    | ahead a b =>
      exact ite2 (fun z => absurd (of_decide_eq_true z) (w (.inl rfl))) fun _ => ⟨_, rfl, t, _, _, .str a, rfl, rfl, SqT.of ht1, rfl, _, rfl, t, _, _, .str b, rfl, rfl, SqT.of ht1, rfl, by show 2 ≤ sizeLine; decide, fun l hl => q l _ ((smu hp).trans (smu hl)) ((smu hp).free hl) upd_same⟩
    | turns a b =>
      exact ite2 (fun z => absurd (of_decide_eq_true z) (w (.inr (.inl rfl)))) fun _ => ⟨_, rfl, t, _, _, .str a, rfl, rfl, SqT.of ht1, rfl, _, rfl, t, _, _, .str b, rfl, rfl, SqT.of ht1, rfl, by show 2 ≤ sizeLine; decide, fun l hl => q l _ ((smu hp).trans (smu hl)) ((smu hp).free hl) upd_same⟩
    | hold a b =>
      exact ite2 (fun z => absurd (of_decide_eq_true z) (w (.inr (.inr (.inl rfl))))) fun _ => ⟨_, rfl, t, _, _, .str a, rfl, rfl, SqT.of ht1, rfl, _, rfl, t, _, _, .str b, rfl, rfl, SqT.of ht1, rfl, by show 2 ≤ sizeLine; decide, fun l hl => q l _ ((smu hp).trans (smu hl)) ((smu hp).free hl) upd_same⟩
    | answer a b =>
      exact ite2 (fun z => absurd (of_decide_eq_true z) (w (.inr (.inr (.inr rfl))))) fun _ => ⟨_, rfl, t, _, _, .str a, rfl, rfl, SqT.of ht1, rfl, _, rfl, t, _, _, .str b, rfl, rfl, SqT.of ht1, rfl, by show 2 ≤ sizeLine; decide, fun l hl => q l _ ((smu hp).trans (smu hl)) ((smu hp).free hl) upd_same⟩
end
end K32
namespace K32
open PySem L2 Ky
seal L2.PE L2.PS L2.PSs L2.PA L2.PT L2.PW L2.PG L2.PI L2.PTs L2.PO L2.OpR L2.IxR L2.CallR L2.MtM L2.MtR
unseal L2.MtM L2.MtR
noncomputable def oI (o : Option Nat) : V := match o with | none => .non | some n => .int n
inductive spNext (vs : List V) (H : Hp) (Q : VK) (E : XK) : Prop
  | mk (t : Addr) (s : Nat) (y : Str) (k : RK) (ss : List Str) (h0_ : vs = [.ref t, .int s, .str y]) (h1_ : H t = some (.tup k.words)) (hk : k.Ok ss) (hs : s ≤ k.top) (h2_ : ∀ H', Same H H' → Q (oI (k.next s y)) H')
theorem ifNT {a b : Nat} {p q : Prop} (h : a = b) (x : p) : if decide (V.int (a : Int) = V.int (b : Int)) = true then p else q := by rw [h, if_pos (decide_eq_true rfl)]; exact x
theorem ifNF {a b : Nat} {p q : Prop} (h : a ≠ b) (x : q) : if decide (V.int (a : Int) = V.int (b : Int)) = true then p else q := by rw [if_neg (fun z => h (by have := V.int.inj (of_decide_eq_true z); omega))]; exact x
section
variable {P : Program} {w : World} {K : PySem.W.Frag} {mg : Str → Option Value} {base : Heap}
noncomputable abbrev NNx : List Str := ["_law_rule", "_law_state", "_law_deed", "_law_word", "_law_one"]
theorem scNx : FnScope NNx ["_law_rule", "_law_state", "_law_deed"] (defScope sNext) := ⟨rfl, rfl, rfl, by decide +kernel, rfl, by decide +kernel, by decide +kernel⟩
theorem ok_next {f fA : Addr} {fd fdA : FuncData} (F : Fun K "_law_next" "_law_next" sNext f fd) (T : Txt K mg) (GA : FnOk P w K mg base CX0 1 fA fdA ["_law_rule"] spAboutL) (kA : PySem.W.keepIn K (.ref fA) = true) (bA : Binds K fdA ["_law_rule"] []) (mA : mg "_law_about" = some (.ref fA)) : FnOk P w K mg base CX0 2 f fd ["_law_rule", "_law_state", "_law_deed"] spNext := by
  refine F.ok scNx (fun vs H Q E h => ?_) (fun cdv A outer s H vs Q E hr h => ?_)
  · obtain ⟨t, st, y, k, ss, rfl, _⟩ := h
    rfl
  · obtain ⟨t, st, y, k, ss, rfl, ht, hk, hs, q⟩ := h
    refine ⟨_, pss_cons (ps_par (i := 3) (j := 4) rfl scNx.nd rfl rfl (by decide) rfl rfl (pac (pe_ix ix_tup (pv 0) pe_int (fun _ _ => rfl)) (pac (pe_ix ix_tup (pv 0) pe_int (fun _ _ => rfl)) pa_nil)) rfl)
      (pss_cons (ps_if (pt_cmpR (show OpR _ _ (rIn K true) from op_notIn_seq) (pv 2) (pe_call GA hr rfl mA kA bA .nil pass0 (pac (pv 0) pa_nil)) (by with_unfolding_all rfl)) (pss_one (ps_ret (pv 1))) pss_nil)
      (pss_cons (ps_if (pt_cmpR op_eq (pv 3) pe_str (nomark _)) (pss_one (ps_ret pe_non)) pss_nil)
      (pss_cons (ps_if (pt_cmpR op_eq (pv 3) pe_str (nomark _)) (pss_one (ps_ret (pe_ifExp (pt_cmpR op_lt (pv 1) (pe_ix ix_tup (pv 0) pe_int (fun _ _ => rfl)) (nomark _)) (pe_op op_add (pv 1) pe_int) pe_non))) pss_nil)
      (pss_cons (ps_if (pt_cmpR op_eq (pv 3) pe_str (nomark _)) (pss_one (ps_ret (pe_ifExp (pw_or (pt_cmpR op_eq (pv 2) (pv 4) (nomark _)) (pw_or1 (pt_cmpR op_eq (pv 1) pe_int (nomark _)))).pt pe_int pe_non))) pss_nil)
      (pss_cons (ps_if (pt_cmpR op_eq (pv 3) pe_str (nomark _)) (pss_one (ps_ret (pe_ifExp (pt_cmpR op_eq (pe_cmpR op_eq (pv 2) (pv 4) (nomark _)) (pe_cmpR op_eq (pv 1) pe_int (nomark _)) (nomark _)) (pe_op op_sub pe_int (pv 1)) pe_non))) pss_nil)
      (pss_cons (ps_if (pw_and (pt_cmpR op_eq (pv 3) pe_str (nomark _)) (pw_and (pt_cmpR op_eq (pv 2) (pv 4) (nomark _)) (pw_and1 (pt_cmpR op_eq (pv 1) pe_int (nomark _))))).pt (pss_one (ps_ret pe_non)) pss_nil)
      (pss_one (ps_ret (pe_callTy call_int1 (by rfl) T.int Bo.int (pac (pe_cmpR op_eq (pv 2) (pv 4) (nomark _)) pa_nil)))))))))), ?_⟩
    refine ⟨_, rfl, t, _, _, .str k.word, rfl, rfl, SqT.of ht, at0 k, _, rfl, t, _, _, .str k.one, rfl, rfl, SqT.of ht, at1 k, _, _, rfl, ?_⟩
    refine ⟨_, rfl, _, rfl, t, k, rfl, ht, fun l H1 s1 hl hl1 => ⟨l, _, rfl, .inl (SqL.of hl1), rfl, flat_strs _, _, rfl, ite2 (fun g => ?_) (fun g => ?_)⟩⟩
    · have g' : (!inV (.str y) (k.about.map V.str)) = true := g
      rw [inV_str, Bool.not_eq_true', decide_eq_false_iff_not] at g'
      have q' := q H1 s1
      have e : k.next st y = some st := by
        cases k <;> simp only [RK.about, List.mem_cons, List.not_mem_nil, or_false] at g' <;> simp only [RK.next, if_neg g']
      rw [e] at q'
      exact ⟨_, rfl, q'⟩
    · have g' : y ∈ k.about := Decidable.byContradiction fun z => g (by
        show (!inV (.str y) (k.about.map V.str)) = true
        rw [inV_str, decide_eq_false z]
        rfl)
      have ht1 := s1 _ _ ht
      have q' := q H1 s1
      have st0 : ∀ {p q : Prop}, st = 1 → p → (if decide (V.int (st : Int) = V.int 1) = true then p else q) := fun h x => ifNT (b := 1) h x
      have st1 : ∀ {p q : Prop}, st ≠ 1 → q → (if decide (V.int (st : Int) = V.int 1) = true then p else q) := fun h x => ifNF (b := 1) h x
      cases k with
      | never a =>
        have e : (RK.never a).next st y = none := by simp only [RK.next, if_pos (List.mem_singleton.mp g')]
        rw [e] at q'
        exact ⟨_, rfl, rfl, _, rfl, ifT rfl q'⟩
      | most a n =>
        have ey : y = a := List.mem_singleton.mp g'
        refine ⟨_, rfl, rfl, _, rfl, ifF (by simp only [RK.word]; decide +kernel) ⟨_, rfl, rfl, _, rfl, ifT rfl ⟨_, rfl, _, rfl, t, _, _, .int n, rfl, rfl, SqT.of ht1, rfl, _, _, rfl, rfl, _, rfl, ite2 (fun z => ?_) (fun z => ?_)⟩⟩⟩
        · have hlt : st < n := by have := of_decide_eq_true z; omega
          have e : (RK.most a n).next st y = some (st + 1) := by simp only [RK.next, if_pos ey, if_pos hlt]
          rw [e] at q'
          exact ⟨_, rfl, _, _, rfl, rfl, q'⟩
        · have hlt : ¬ st < n := fun y => z (decide_eq_true (by omega))
          have e : (RK.most a n).next st y = none := by simp only [RK.next, if_pos ey, if_neg hlt]
          rw [e] at q'
          exact q'
      | ahead a b =>
        have ey : y = a ∨ y = b := by simpa [RK.about] using g'
        refine ⟨_, rfl, rfl, _, rfl, ifF (by simp only [RK.word]; decide +kernel) ⟨_, rfl, rfl, _, rfl, ifF (by simp only [RK.word]; decide +kernel) ⟨_, rfl, rfl, _, rfl, ifT rfl ⟨_, rfl, _, rfl, rfl, _, rfl, ite2 (fun z => ?_) (fun z => ⟨_, rfl, rfl, _, rfl, ite2 (fun z2 => ?_) (fun z2 => ?_)⟩)⟩⟩⟩⟩
        · have h1 : y = a := V.str.inj (of_decide_eq_true z)
          have e : (RK.ahead a b).next st y = some 1 := by simp only [RK.next, if_pos ey, if_pos (Or.inl h1)]
          rw [e] at q'
          exact iteT q'
        · have h1 : st = 1 := Int.ofNat.inj (V.int.inj (of_decide_eq_true z2))
          have e : (RK.ahead a b).next st y = some 1 := by simp only [RK.next, if_pos ey, if_pos (Or.inr h1)]
          rw [e] at q'
          exact q'
        · have h1 : ¬ (y = a ∨ st = 1) := fun h => h.elim (fun h => z (decide_eq_true (by rw [h]; rfl))) fun h => z2 (decide_eq_true (by rw [h]; rfl))
          have e : (RK.ahead a b).next st y = none := by simp only [RK.next, if_pos ey, if_neg h1]
          rw [e] at q'
          exact q'
      | turns a b =>
        have ey : y = a ∨ y = b := by simpa [RK.about] using g'
        have hs1 : st ≤ 1 := hs
        have e1 : decide (V.str y = V.str (RK.turns a b).one) = decide (y = a) := by rw [decide_eq_decide]; exact ⟨V.str.inj, congrArg V.str⟩
        have e2 : decide (V.int (st : Int) = V.int 0) = decide (st = 0) := by rw [decide_eq_decide]; exact ⟨fun h => Int.ofNat.inj (V.int.inj h), fun h => by rw [h]; rfl⟩
        refine ⟨_, rfl, rfl, _, rfl, ifF (by simp only [RK.word]; decide +kernel) ⟨_, rfl, rfl, _, rfl, ifF (by simp only [RK.word]; decide +kernel) ⟨_, rfl, rfl, _, rfl, ifF (by simp only [RK.word]; decide +kernel) ⟨_, rfl, rfl, _, rfl, ifT rfl ⟨_, rfl, _, rfl, rfl, _, rfl, rfl, rfl, _, rfl, ite2 (fun z => ?_) (fun z => ?_)⟩⟩⟩⟩⟩
        · have z' := V.bl.inj (of_decide_eq_true z)
          rw [e1, e2] at z'
          have hif : (y = a ↔ st = 0) := decide_eq_decide.mp z'
          have e : (RK.turns a b).next st y = some (1 - st) := by simp only [RK.next, if_pos ey, if_pos hif]
          rw [e] at q'
          refine ⟨_, rfl, _, _, rfl, rfl, ?_⟩
          rw [show (1 : Int) - (st : Int) = ((1 - st : Nat) : Int) by omega]
          exact q'
        · have hif : ¬ (y = a ↔ st = 0) := fun h => z (decide_eq_true (congrArg V.bl (by rw [e1, e2]; exact decide_eq_decide.mpr h)))
          have e : (RK.turns a b).next st y = none := by simp only [RK.next, if_pos ey, if_neg hif]
          rw [e] at q'
          exact q'
      | hold a b =>
        have ey : y = a ∨ y = b := by simpa [RK.about] using g'
        by_cases h1 : y = a
        · subst h1
          by_cases h2 : st = 1
          · have e : (RK.hold y b).next st y = none := by simp [RK.next, h2]
            rw [e] at q'
            exact ⟨_, rfl, rfl, _, rfl, ifF (by simp only [RK.word]; decide +kernel) ⟨_, rfl, rfl, _, rfl, ifF (by simp only [RK.word]; decide +kernel) ⟨_, rfl, rfl, _, rfl, ifF (by simp only [RK.word]; decide +kernel) ⟨_, rfl, rfl, _, rfl, ifF (by simp only [RK.word]; decide +kernel) ⟨_, rfl, rfl, _, rfl, ifT rfl ⟨_, rfl, _, rfl, rfl, _, rfl, ifT rfl ⟨_, rfl, rfl, _, rfl, st0 h2 q'⟩⟩⟩⟩⟩⟩⟩
          · have e : (RK.hold y b).next st y = some 1 := by simp [RK.next, h2]
            rw [e] at q'
            refine ⟨_, rfl, rfl, _, rfl, ifF (by simp only [RK.word]; decide +kernel) ⟨_, rfl, rfl, _, rfl, ifF (by simp only [RK.word]; decide +kernel) ⟨_, rfl, rfl, _, rfl, ifF (by simp only [RK.word]; decide +kernel) ⟨_, rfl, rfl, _, rfl, ifF (by simp only [RK.word]; decide +kernel) ⟨_, rfl, rfl, _, rfl, ifT rfl ⟨_, rfl, _, rfl, rfl, _, rfl, ifT rfl ⟨_, rfl, rfl, _, rfl, st1 h2 ⟨_, rfl, _, rfl, rfl, .inr ⟨_, rfl, ?_⟩⟩⟩⟩⟩⟩⟩⟩⟩
            rw [decide_eq_true (show V.str y = V.str (RK.hold y b).one from rfl)]
            exact q'
        · have e : (RK.hold a b).next st y = some 0 := by simp only [RK.next]; rw [if_pos ey, if_neg (fun z => h1 z.1), if_neg h1]
          rw [e] at q'
          refine ⟨_, rfl, rfl, _, rfl, ifF (by simp only [RK.word]; decide +kernel) ⟨_, rfl, rfl, _, rfl, ifF (by simp only [RK.word]; decide +kernel) ⟨_, rfl, rfl, _, rfl, ifF (by simp only [RK.word]; decide +kernel) ⟨_, rfl, rfl, _, rfl, ifF (by simp only [RK.word]; decide +kernel) ⟨_, rfl, rfl, _, rfl, ifT rfl ⟨_, rfl, _, rfl, rfl, _, rfl, ifF h1 ⟨_, rfl, _, rfl, rfl, .inr ⟨_, rfl, ?_⟩⟩⟩⟩⟩⟩⟩⟩
          rw [decide_eq_false (show ¬ V.str y = V.str (RK.hold a b).one from fun z => h1 (V.str.inj z))]
          exact q'
      | answer a b =>
        have ey : y = a ∨ y = b := by simpa [RK.about] using g'
        have e : (RK.answer a b).next st y = some (if y = a then 1 else 0) := by simp only [RK.next, if_pos ey]
        rw [e] at q'
        refine ⟨_, rfl, rfl, _, rfl, ifF (by simp only [RK.word]; decide +kernel) ⟨_, rfl, rfl, _, rfl, ifF (by simp only [RK.word]; decide +kernel) ⟨_, rfl, rfl, _, rfl, ifF (by simp only [RK.word]; decide +kernel) ⟨_, rfl, rfl, _, rfl, ifF (by simp only [RK.word]; decide +kernel) ⟨_, rfl, rfl, _, rfl, ifF (by simp only [RK.word]; decide +kernel) ⟨_, rfl, _, rfl, rfl, .inr ⟨_, rfl, ?_⟩⟩⟩⟩⟩⟩⟩
        by_cases h1 : y = a
        · rw [if_pos h1] at q'
          rw [decide_eq_true (show V.str y = V.str (RK.answer a b).one from congrArg V.str h1)]
          exact q'
        · rw [if_neg h1] at q'
          rw [decide_eq_false (show ¬ V.str y = V.str (RK.answer a b).one from fun z => h1 (V.str.inj z))]
          exact q'
end
end K32
namespace K32
open PySem L2 Ky
seal L2.PE L2.PS L2.PSs L2.PA L2.PT L2.PW L2.PG L2.PI L2.PTs L2.PO L2.OpR L2.IxR L2.CallR L2.MtM L2.MtR
unseal L2.MtM L2.MtR
theorem due_drop (k : RK) : ∀ (r : List Str) (i s z : Nat) (y : Str), k.due s (r.take i) = some z → r[i]? = some y → k.due s (r.take (i + 1)) = k.next z y
  | [], i, s, z, y, h, e => by cases e
  | u :: r, 0, s, z, y, h, e => by
    cases e
    cases h
    show (match k.next s u with | none => none | some s' => some s') = _
    cases k.next s u <;> rfl
  | u :: r, i + 1, s, z, y, h, e => by
    rw [List.take_succ_cons] at h ⊢
    unfold RK.due at h ⊢
    cases q : k.next s u with
    | none => rw [q] at h; cases h
    | some s' =>
      rw [q] at h
      exact due_drop k r i s' z y h e
theorem due_none (k : RK) : ∀ (r : List Str) (i s : Nat), k.due s (r.take i) = none → k.due s r = none
  | [], i, s, h => by rw [List.take_nil] at h; exact h
  | u :: r, 0, s, h => by cases h
  | u :: r, i + 1, s, h => by
    rw [List.take_succ_cons] at h
    unfold RK.due at h ⊢
    cases q : k.next s u with
    | none => rfl
    | some s' =>
      rw [q] at h
      exact due_none k r i s' h
inductive spDue (K : PySem.W.Frag) (vs : List V) (H : Hp) (Q : VK) (E : XK) : Prop
  | mk (t r : Addr) (k : RK) (ss row : List Str) (h0_ : vs = [.ref t, .ref r]) (h1_ : H t = some (.tup k.words)) (h2_ : k.Ok ss) (h3_ : SqL K H r (row.map V.str)) (h4_ : ∀ H', Same H H' → Q (oI (k.due 0 row)) H')
section
variable {P : Program} {w : World} {K : PySem.W.Frag} {mg : Str → Option Value} {base : Heap}
noncomputable abbrev NDu : List Str := ["_law_words", "_law_row_here", "_law_state", "_law_deed"]
theorem scDu : FnScope NDu ["_law_words", "_law_row_here"] (defScope sDue) := ⟨rfl, rfl, rfl, by decide +kernel, rfl, by decide +kernel, by decide +kernel⟩
theorem ok_due {f fN : Addr} {fd fdN : FuncData} (F : Fun K "_law_due" "_law_due" sDue f fd) (GN : FnOk P w K mg base CX0 2 fN fdN ["_law_rule", "_law_state", "_law_deed"] spNext) (kN : PySem.W.keepIn K (.ref fN) = true) (bN : Binds K fdN ["_law_rule", "_law_state", "_law_deed"] []) (mN : mg "_law_next" = some (.ref fN)) : FnOk P w K mg base CX0 3 f fd ["_law_words", "_law_row_here"] (spDue K) := by
  refine F.ok scDu (fun vs H Q E h => ?_) (fun cdv A outer s H vs Q E hr h => ?_)
  · obtain ⟨t, r, k, ss, row, rfl, _⟩ := h
    rfl
  · obtain ⟨t, r, k, ss, row, rfl, ht, hk, hS, q⟩ := h
    refine ⟨_, pss_cons (ps_set (i := 2) scDu.nd rfl (Or.inl rfl) pe_int)
      (pss_cons (ps_for PassesOwn.never rfl (pi_list (pv 1)) (pg_name (i := 3) scDu.nd rfl (Or.inl rfl))
        (pss_cons (ps_set (i := 2) scDu.nd rfl (Or.inl rfl) (pe_call GN hr rfl mN kN bN .nil pass0 (pac (pv 0) (pac (pv 2) (pac (pv 3) pa_nil)))))
        (pss_one (ps_if (pt_cmpR op_isN (pv 2) pe_non (nomark _)) (pss_one (ps_ret pe_non)) pss_nil))))
      (pss_one (ps_ret (pv 2)))), ?_⟩
    refine ⟨_, rfl, r, rfl, ⟨_, hS⟩, ?_⟩
    refine for_list (xs := row.map V.str) (fun i σ H' => ∃ (z : Nat) (x3 : Option V), σ = [some (.ref t), some (.ref r), some (.int z), x3] ∧ k.due 0 (row.take i) = some z ∧ z ≤ k.top ∧ Same H H') ?_ ?_ ?_ ?_
    · exact ⟨0, none, rfl, rfl, Nat.zero_le _, Same.refl H⟩
    · rintro i σ H' _ ⟨z, x3, rfl, h1, h2, sm⟩
      exact sm.seq hS
    · rintro i v σ H' hv ⟨z, x3, rfl, h1, h2, sm⟩
      rw [List.getElem?_map] at hv
      cases hy : row[i]? with
      | none => rw [hy] at hv; cases hv
      | some y =>
        rw [hy] at hv
        cases hv
        have h3 := due_drop k row i 0 z y h1 hy
        refine ⟨_, rfl, _, rfl, _, rfl, t, z, y, k, ss, rfl, sm _ _ ht, hk, h2, fun H1 s1 => ?_⟩
        cases hg : k.next z y with
        | none =>
          refine ⟨_, rfl, rfl, _, rfl, iteT ?_⟩
          have := q H1 (sm.trans s1)
          rw [due_none k row (i + 1) 0 (h3.trans hg)] at this
          exact this
        | some u =>
          refine ⟨_, rfl, rfl, _, rfl, iteF ?_⟩
          exact ⟨u, some (.str y), rfl, h3.trans hg, (step k hk h2 y).2 u hg, sm.trans s1⟩
    · rintro σ H' ⟨z, x3, rfl, h1, h2, sm⟩
      rw [List.length_map, List.take_length] at h1
      have := q H' sm
      rw [h1] at this
      exact ⟨_, rfl, this⟩
noncomputable abbrev six : List Str := ["never", "most", "ahead", "turns", "hold", "answer"]
inductive spDrawn (K : PySem.W.Frag) (vs : List V) (H : Hp) (Q : VK) (E : XK) : Prop
  | mk (c : Int) (n : Addr) (ss : List Str) (h0_ : vs = [.int c, .ref n]) (h1_ : SqL K H n (ss.map V.str)) (h2_ : 2 ≤ ss.length ∧ ss.length ≤ 12) (h3_ : ss.Nodup) (h4_ : ∀ (t : Addr) (k : RK) H', Same H H' → k.Ok ss → H' t = some (.tup k.words) → Q (.ref t) H')
noncomputable abbrev NDr : List Str := ["_law_cell", "_law_names", "_law_word", "_law_one", "_law_other"]
theorem scDr : FnScope NDr ["_law_cell", "_law_names"] (defScope sDrawn) := ⟨rfl, rfl, rfl, by decide +kernel, rfl, by decide +kernel, by decide +kernel⟩
theorem apart_ix {u v L : Int} (h0 : 0 ≤ v) (h1 : v < L - 1) : (u + 1 + v) % L ≠ u % L := fun e => by
  have e2 : (u + 1 + v - u) % L = 0 := (Int.emod_eq_emod_iff_emod_sub_eq_zero).mp e
  rw [show u + 1 + v - u = 1 + v by omega, Int.emod_eq_of_lt (by omega) (by omega)] at e2
  omega
theorem ok_drawn {f : Addr} {fd : FuncData} (F : Fun K "_law_drawn" "_law_drawn" sDrawn f fd) (T : Txt K mg) : FnOk P w K mg base CX0 1 f fd ["_law_cell", "_law_names"] (spDrawn K) := by
  refine F.ok scDr (fun vs H Q E h => ?_) (fun cdv A outer s H vs Q E hr h => ?_)
  · obtain ⟨c, n, ss, rfl, _⟩ := h
    rfl
  · obtain ⟨c, n, ss, rfl, hS, ⟨h2, h12⟩, hnd, q⟩ := h
    refine ⟨_, pss_cons (ps_set (i := 2) scDr.nd rfl (Or.inl rfl) (pe_ix ix_list (pe_lst (pac pe_str (pac pe_str (pac pe_str (pac pe_str (pac pe_str (pac pe_str pa_nil))))))) (pe_op op_mod (pv 0) pe_int) (fun _ _ => rfl)))
      (pss_cons (ps_set (i := 3) scDr.nd rfl (Or.inl rfl) (pe_ix ix_list (pv 1) (pe_op op_mod (pe_op op_fdiv (pv 0) pe_int) (pe_callB call_len_seq (by rfl) T.len Bo.len (pac (pv 1) pa_nil))) (fun _ _ => rfl)))
      (pss_cons (ps_set (i := 4) scDr.nd rfl (Or.inl rfl) (pe_ix ix_list (pv 1) (pe_op op_mod (pe_op op_add (pe_op op_add (pe_op op_fdiv (pv 0) pe_int) pe_int) (pe_op op_mod (pe_op op_fdiv (pv 0) pe_int) (pe_op op_sub (pe_callB call_len_seq (by rfl) T.len Bo.len (pac (pv 1) pa_nil)) pe_int))) (pe_callB call_len_seq (by rfl) T.len Bo.len (pac (pv 1) pa_nil))) (fun _ _ => rfl)))
      (pss_cons (ps_if (pt_cmpR op_eq (pv 2) pe_str (nomark _)) (pss_one (ps_ret (pe_tup (pac (pv 2) (pac (pv 3) pa_nil))))) pss_nil)
      (pss_cons (ps_if (pt_cmpR op_eq (pv 2) pe_str (nomark _)) (pss_one (ps_ret (pe_tup (pac (pv 2) (pac (pv 3) (pac (pe_op op_mod (pe_op op_fdiv (pv 0) pe_int) pe_int) pa_nil)))))) pss_nil)
      (pss_one (ps_ret (pe_tup (pac (pv 2) (pac (pv 3) (pac (pv 4) pa_nil)))))))))), ?_⟩
    have g6 := emod_in c (m := 6) (by decide)
    have g7 := emod_in (c / 144) (m := 7) (by decide)
    have lm : ((ss.map V.str).length : Int) = ss.length := by rw [List.length_map]
    have gi := emod_in (c / 6) (m := (ss.length : Int)) (by omega)
    have gv := emod_in (c / 72) (m := (ss.length : Int) - 1) (by omega)
    have gj := emod_in (c / 6 + 1 + c / 72 % ((ss.length : Int) - 1)) (m := (ss.length : Int)) (by omega)
    have hne := apart_ix (u := c / 6) gv.1 gv.2
    refine ⟨by show 6 ≤ sizeLine; decide, fun p1 hp1 => ⟨_, rfl, _, _, rfl, rfl, (by show (0 : Int) < 6; decide), p1, _, _, V.str (six.getD (c % 6).toNat ""), rfl, rfl, SqL.of upd_same, atI_getD V.str six "" g6.1 g6.2, ?_⟩⟩
    have s1 := smu (o := .lst [V.str "never", V.str "most", V.str "ahead", V.str "turns", V.str "hold", V.str "answer"]) hp1
    generalize upd H p1 (.lst [V.str "never", V.str "most", V.str "ahead", V.str "turns", V.str "hold", V.str "answer"]) = H1 at s1 ⊢
    have hS1 := s1.seq hS
    refine ⟨_, rfl, _, rfl, _, _, rfl, rfl, ⟨by decide, by decide⟩, _, rfl, n, _, rfl, .inl hS1, _, _, rfl, rfl, (by rw [lm]; omega), n, _, _, .str (ss.getD (c / 6 % (ss.length : Int)).toNat ""), rfl, rfl, hS1, by rw [lm]; exact atI_getD V.str ss "" gi.1 gi.2, ?_⟩
    refine ⟨_, rfl, _, rfl, _, _, rfl, rfl, ⟨by decide, by decide⟩, _, _, rfl, rfl, _, rfl, _, _, rfl, rfl, ⟨by decide, by decide⟩, _, rfl, n, _, rfl, .inl hS1, _, _, rfl, rfl, _, _, rfl, rfl, (by rw [lm]; omega), _, _, rfl, rfl, _, rfl, n, _, rfl, .inl hS1, _, _, rfl, rfl, (by rw [lm]; omega), n, _, _, .str (ss.getD ((c / 6 + 1 + c / 72 % ((ss.length : Int) - 1)) % (ss.length : Int)).toNat ""), rfl, rfl, hS1, by rw [lm]; exact atI_getD V.str ss "" gj.1 gj.2, ?_⟩
    obtain ⟨i, ei, hi⟩ : ∃ i : Nat, c / 6 % (ss.length : Int) = i ∧ i < ss.length := ⟨(c / 6 % (ss.length : Int)).toNat, by omega, by omega⟩
    obtain ⟨j, ej, hj⟩ : ∃ j : Nat, (c / 6 + 1 + c / 72 % ((ss.length : Int) - 1)) % (ss.length : Int) = j ∧ j < ss.length := ⟨((c / 6 + 1 + c / 72 % ((ss.length : Int) - 1)) % (ss.length : Int)).toNat, by omega, by omega⟩
    rw [ei, ej] at hne
    rw [ei, ej, Int.toNat_natCast, Int.toNat_natCast]
    have ha : ss[i]? = some (ss.getD i "") := by rw [List.getD_eq_getElem?_getD, List.getElem?_eq_getElem hi]; rfl
    have hb : ss[j]? = some (ss.getD j "") := by rw [List.getD_eq_getElem?_getD, List.getElem?_eq_getElem hj]; rfl
    generalize ss.getD i "" = a at ha ⊢
    generalize ss.getD j "" = b at hb ⊢
    have hab : a ≠ b := fun e => hne (by rw [(List.getElem?_inj (i := i) (j := j) hi hnd).mp (by rw [ha, hb, e])])
    have ma := List.mem_of_getElem? ha
    have mb := List.mem_of_getElem? hb
    have two : ∀ {k : RK}, k.Ok ss → k.words = [.str k.word, .str a, .str b] → ∀ t, H1 t = none → Q (.ref t) (upd H1 t (.tup [.str k.word, .str a, .str b])) := fun {k} hk e t ht => q t k _ (s1.trans (smu ht)) hk (by rw [upd_same, e])
    obtain ⟨m, em⟩ : ∃ m : Nat, (c % 6).toNat = m ∧ m < 6 := ⟨_, rfl, by omega⟩
    rw [em.1]
    match m, em.2 with
    | 0, _ => exact ⟨_, rfl, rfl, _, rfl, ifT rfl ⟨_, rfl, _, rfl, by show 2 ≤ sizeLine; decide, fun t ht => q t (.never a) _ (s1.trans (smu ht)) ma upd_same⟩⟩
    | 1, _ =>
      obtain ⟨r, er⟩ : ∃ r : Nat, c / 144 % 7 = r := ⟨(c / 144 % 7).toNat, by omega⟩
      refine ⟨_, rfl, rfl, _, rfl, ifF (by decide +kernel) ⟨_, rfl, rfl, _, rfl, ifT rfl ⟨_, rfl, _, rfl, _, rfl, _, _, rfl, rfl, ⟨by decide, by decide⟩, _, _, rfl, rfl, (by show (0 : Int) < 7; decide), by show 3 ≤ sizeLine; decide, fun t ht => ?_⟩⟩⟩
      rw [er]
      exact q t (.most a r) _ (s1.trans (smu ht)) ⟨ma, by omega⟩ upd_same
    | 2, _ => exact ⟨_, rfl, rfl, _, rfl, ifF (by decide +kernel) ⟨_, rfl, rfl, _, rfl, ifF (by decide +kernel) ⟨_, rfl, _, rfl, _, rfl, by show 3 ≤ sizeLine; decide, fun t ht => two (k := .ahead a b) ⟨ma, mb, hab⟩ rfl t ht⟩⟩⟩
    | 3, _ => exact ⟨_, rfl, rfl, _, rfl, ifF (by decide +kernel) ⟨_, rfl, rfl, _, rfl, ifF (by decide +kernel) ⟨_, rfl, _, rfl, _, rfl, by show 3 ≤ sizeLine; decide, fun t ht => two (k := .turns a b) ⟨ma, mb, hab⟩ rfl t ht⟩⟩⟩
    | 4, _ => exact ⟨_, rfl, rfl, _, rfl, ifF (by decide +kernel) ⟨_, rfl, rfl, _, rfl, ifF (by decide +kernel) ⟨_, rfl, _, rfl, _, rfl, by show 3 ≤ sizeLine; decide, fun t ht => two (k := .hold a b) ⟨ma, mb, hab⟩ rfl t ht⟩⟩⟩
    | 5, _ => exact ⟨_, rfl, rfl, _, rfl, ifF (by decide +kernel) ⟨_, rfl, rfl, _, rfl, ifF (by decide +kernel) ⟨_, rfl, _, rfl, _, rfl, by show 3 ≤ sizeLine; decide, fun t ht => two (k := .answer a b) ⟨ma, mb, hab⟩ rfl t ht⟩⟩⟩
end
end K32
namespace K32
open PySem L2 Ky
seal L2.PE L2.PS L2.PSs L2.PA L2.PT L2.PW L2.PG L2.PI L2.PTs L2.PO L2.OpR L2.IxR L2.CallR L2.MtM L2.MtR
unseal L2.MtM L2.MtR
structure TD (ss fs : List Str) : Prop where
  l2 : 2 ≤ ss.length
  le : ss.length ≤ 12
  nd : ss.Nodup
  m12 : ∀ z ∈ ss, z ∈ some12
  fr : ∀ z ∈ fs, z ∈ ss
  fl : fs.length ≤ 12
theorem td_of (c : Int) (h : 2 ≤ (namesBy (c / 256) (manyOf c)).length) : TD (namesBy (c / 256) (manyOf c)) (freeBy c (namesBy (c / 256) (manyOf c))) := by
  have hl : (namesBy (c / 256) (manyOf c)).length ≤ 12 := by unfold namesBy; rw [List.length_map, List.length_range]; exact manyOf_le _
  exact ⟨h, hl, namesBy_nodup _ (manyOf_le _), fun z hz => namesBy_mem hz, fun z hz => freeBy_sub hz, Nat.le_trans (freeBy_len _ _) hl⟩
theorem td_two : TD ["go", "r0"] ["r0"] := ⟨by decide, by decide, by decide +kernel, by decide +kernel, by decide +kernel, by decide⟩
inductive spTwoD (vs : List V) (H : Hp) (Q : VK) (E : XK) : Prop
  | mk (c : Int) (h0_ : vs = [.int c]) (h1_ : ∀ (t l m : Addr) (ss fs : List Str) H', TD ss fs → Same H H' → H' t = some (.tup [.ref l, .ref m]) → H' l = some (.lst (ss.map V.str)) → H' m = some (.lst (fs.map V.str)) → Q (.ref t) H')
section
variable {P : Program} {w : World} {K : PySem.W.Frag} {mg : Str → Option Value} {base : Heap}
theorem scTD : FnScope ["_law_cell", "_law_names", "_law_free"] ["_law_cell"] (defScope sTwo) := ⟨rfl, rfl, rfl, by decide +kernel, rfl, by decide +kernel, by decide +kernel⟩
theorem ok_twoD {f fD : Addr} {fd fdD : FuncData} (F : Fun K "_law_two_deeds" "_law_two_deeds" sTwo f fd) (T : Txt K mg) (GD : FnOk P w K mg base CX0 2 fD fdD ["_law_cell"] (spDeedsBy K)) (kD : PySem.W.keepIn K (.ref fD) = true) (bD : Binds K fdD ["_law_cell"] []) (mD : mg "_law_deeds_by" = some (.ref fD)) : FnOk P w K mg base CX0 3 f fd ["_law_cell"] spTwoD := by
  refine F.ok scTD (fun vs H Q E h => ?_) (fun cdv A outer s H vs Q E hr h => ?_)
  · obtain ⟨c, rfl, _⟩ := h
    rfl
  · obtain ⟨c, rfl, q⟩ := h
    refine ⟨_, pss_cons (ps_asg (pe_call GD hr rfl mD kD bD .nil pass0 (pac (pv 0) pa_nil)) (pg_tup rfl (pgs_cons (pg_name (i := 1) scTD.nd rfl (Or.inl rfl)) (pgs_cons (pg_name (i := 2) scTD.nd rfl (Or.inl rfl)) pgs_nil))))
      (pss_cons (ps_if (pt_cmpR op_lt (pe_callB call_len_seq (by rfl) T.len Bo.len (pac (pv 1) pa_nil)) pe_int (nomark _)) (pss_one (ps_ret (pe_tup (pac (pe_lst (pac pe_str (pac pe_str pa_nil))) (pac (pe_lst (pac pe_str pa_nil)) pa_nil))))) pss_nil)
      (pss_one (ps_ret (pe_tup (pac (pv 1) (pac (pv 2) pa_nil)))))), ?_⟩
    refine ⟨_, rfl, c, rfl, fun t l m H1 s1 ht hl hm => ⟨t, _, rfl, SqT.of ht, rfl, _, _, rfl, _, _, rfl, rfl, ?_⟩⟩
    refine ⟨_, rfl, l, _, rfl, .inl (SqL.of hl), _, _, rfl, rfl, _, rfl, ite2 (fun g => ?_) (fun g => ?_)⟩
    · refine ⟨by show 2 ≤ sizeLine; decide, fun p1 hp1 => ⟨by show 1 ≤ sizeLine; decide, fun p2 hp2 => ⟨by show 2 ≤ sizeLine; decide, fun p3 hp3 => ?_⟩⟩⟩
      exact q p3 p1 p2 _ _ _ td_two (s1.trans ((smu hp1).trans ((smu hp2).trans (smu hp3)))) upd_same (smu hp3 _ _ (smu hp2 _ _ upd_same)) (smu hp3 _ _ upd_same)
    · have h2 : 2 ≤ (namesBy (c / 256) (manyOf c)).length := Decidable.byContradiction fun z => g (decide_eq_true (by rw [List.length_map]; omega))
      exact ⟨_, rfl, _, rfl, by show 2 ≤ sizeLine; decide, fun p3 hp3 => q p3 l m _ _ _ (td_of c h2) (s1.trans (smu hp3)) upd_same (smu hp3 _ _ hl) (smu hp3 _ _ hm)⟩
inductive spRowL (K : PySem.W.Frag) (vs : List V) (H : Hp) (Q : VK) (E : XK) : Prop
  | mk (c : Int) (n : Addr) (ss : List Str) (h0_ : vs = [.int c, .ref n, .int 30]) (h1_ : SqL K H n (ss.map V.str)) (h2_ : 1 ≤ ss.length) (h3_ : ∀ (l : Addr) (row : List Str) H', Same H H' → H l = none → H' l = some (.lst (row.map V.str)) → (∀ z ∈ row, z ∈ ss) → row.length ≤ 30 → Q (.ref l) H')
noncomputable abbrev NRo : List Str := ["_law_cell", "_law_names", "_law_most"]
theorem scRoL : FnScope NRo NRo (defScope sRow) := ⟨rfl, rfl, rfl, by decide +kernel, rfl, by decide +kernel, by decide +kernel⟩
noncomputable abbrev nd7 : List Str := ["_law_k", "_law_names", "_law_cell"]
theorem ok_rowL {f fM : Addr} {fd fdM : FuncData} (F : Fun K "_law_row" "_law_row" sRow f fd) (T : Txt K mg) (GM : FnOk P w K mg base CX0 1 fM fdM ["_law_cell", "_law_k"] spMixed) (kM : PySem.W.keepIn K (.ref fM) = true) (bM : Binds K fdM ["_law_cell", "_law_k"] []) (mM : mg "_law_mixed" = some (.ref fM)) : FnOk P w K mg base CX0 2 f fd NRo (spRowL K) := by
  refine F.ok scRoL (fun vs H Q E h => ?_) (fun cdv A outer s H vs Q E hr h => ?_)
  · obtain ⟨c, n, ss, rfl, _⟩ := h
    rfl
  · obtain ⟨c, n, ss, rfl, hS, h1, q⟩ := h
    refine ⟨_, pss_one (ps_ret (pe_comp (N' := nd7) (nown := 1) (js := [1, 0]) rfl ⟨rfl, by decide +kernel, by decide +kernel⟩ (blkNames (defScope sRow) NRo rfl rfl (by decide +kernel))
        ⟨fun _ _ _ _ => pg_name (i := 0) (show List.Nodup nd7 by decide +kernel) rfl (Or.inl rfl) (.inr rfl), fun _ _ _ _ => pts_nil,
          fun _ _ _ _ => pe_ix (show IxR _ (rIxL K) from ix_list) (pv 1) (pe_op op_mod (pe_call GM hr rfl mM kM bM .nil pass0 (pac (pv 2) (pac (pe_op op_add pe_int (pv 0)) pa_nil))) (pe_callB (show CallR _ _ (LenSeq K) from call_len_seq) (by rfl) T.len Bo.len (pac (pv 1) pa_nil))) (fun _ _ => rfl)⟩
        (pi_range1 rfl T.range (pac (pe_op op_mod (pv 0) (pe_op op_add (pv 2) pe_int)) pa_nil)))), ?_⟩
    have g31 := emod_in c (m := 31) (by decide)
    obtain ⟨m, em, hm⟩ : ∃ m : Nat, c % 31 = m ∧ m ≤ 30 := ⟨(c % 31).toNat, by omega, by omega⟩
    refine ⟨_, rfl, _, rfl, _, _, rfl, rfl, _, _, rfl, rfl, (by show (0 : Int) < 30 + 1; decide), (m : Int), (by show [V.int (c % (30 + 1))] = [V.int m]; rw [show (30 : Int) + 1 = 31 from rfl, em]), by omega, by omega, fun D hD => blk_range (n := m) (lo := 0) (fun i σ' H' => ∃ v, σ' = [v, some (.ref n), some (.int c)] ∧ (∃ row : List Str, H' D = some (.lst (row.map V.str)) ∧ row.length = i ∧ ∀ z ∈ row, z ∈ ss) ∧ Same H H') ?_ ?_ ?_⟩
    · exact ⟨none, rfl, ⟨[], upd_same, rfl, fun z hz => (nomatch hz)⟩, smu hD⟩
    · rintro i σ' H' hi ⟨v, rfl, ⟨row, h4, h5, h6⟩, sm⟩
      have lm : ((ss.map V.str).length : Int) = ss.length := by rw [List.length_map]
      have gi := emod_in (RW.mixed c (40 + (0 + (i : Int)))) (m := (ss.length : Int)) (by omega)
      refine ⟨_, rfl, _, rfl, _, rfl, _, _, rfl, rfl, c, _, rfl, _, rfl, n, _, rfl, .inl (sm.seq hS), _, _, rfl, rfl, (by rw [lm]; omega), n, _, _, .str (ss.getD (RW.mixed c (40 + (0 + (i : Int))) % (ss.length : Int)).toNat ""), rfl, rfl, sm.seq hS, by rw [lm]; exact atI_getD V.str ss "" gi.1 gi.2, _, h4, small1000 (by rw [List.length_map]; omega), _, rfl, ⟨row ++ [ss.getD (RW.mixed c (40 + (0 + (i : Int))) % (ss.length : Int)).toNat ""], by rw [upd_same, List.map_append]; rfl, by rw [List.length_append, h5]; rfl, fun z hz => ?_⟩, fun b o e => ?_⟩
      · rcases List.mem_append.mp hz with hz | hz
        · exact h6 z hz
        · rw [List.mem_singleton.mp hz, List.getD_eq_getElem?_getD, List.getElem?_eq_getElem (by omega)]
          exact List.getElem_mem _
      · rw [upd_ne (ne_of_none e hD)]
        exact sm _ _ e
    · rintro σ' H' ⟨v, rfl, ⟨row, h4, h5, h6⟩, sm⟩
      exact q D row H' sm hD h4 h6 (by omega)
end
end K32
namespace K32
open PySem L2 Ky
seal L2.PE L2.PS L2.PSs L2.PA L2.PT L2.PW L2.PG L2.PI L2.PTs L2.PO L2.OpR L2.IxR L2.CallR L2.MtM L2.MtR
unseal L2.MtM L2.MtR
inductive spSomeRow (K : PySem.W.Frag) (vs : List V) (H : Hp) (Q : VK) (E : XK) : Prop
  | mk (c : Int) (n t : Addr) (k : RK) (ss : List Str) (h0_ : vs = [.int c, .ref n, .ref t]) (h1_ : SqL K H n (ss.map V.str)) (h2_ : 1 ≤ ss.length) (h3_ : H t = some (.tup k.words)) (h4_ : k.Ok ss) (h5_ : ∀ (l : Addr) (row : List Str) H', Same H H' → H l = none → H' l = some (.lst (row.map V.str)) → (∀ z ∈ row, z ∈ ss) → row.length ≤ 30 → Q (.ref l) H')
theorem flat_mem {n : Nat} {xs : List Str} {z : Str} (h : z ∈ (List.replicate n xs).flatten) : z ∈ xs := by
  obtain ⟨l, hl, hz⟩ := List.mem_flatten.mp h
  rw [(List.mem_replicate.mp hl).2] at hz
  exact hz
theorem about_pos (k : RK) : 1 ≤ k.about.length ∧ k.about.length ≤ 2 := by cases k <;> simp [RK.about]
section
variable {P : Program} {w : World} {K : PySem.W.Frag} {mg : Str → Option Value} {base : Heap}
noncomputable abbrev NSR : List Str := ["_law_cell", "_law_names", "_law_words"]
theorem scSR : FnScope NSR NSR (defScope sSomeRow) := ⟨rfl, rfl, rfl, by decide +kernel, rfl, by decide +kernel, by decide +kernel⟩
theorem ok_someRow {f fR fA : Addr} {fd fdR fdA : FuncData} (F : Fun K "_law_some_row" "_law_some_row" sSomeRow f fd) (T : Txt K mg)
    (GR : FnOk P w K mg base CX0 2 fR fdR NRo (spRowL K)) (kR : PySem.W.keepIn K (.ref fR) = true) (bR : Binds K fdR NRo []) (mR : mg "_law_row" = some (.ref fR))
    (GA : FnOk P w K mg base CX0 1 fA fdA ["_law_rule"] spAboutL) (kA : PySem.W.keepIn K (.ref fA) = true) (bA : Binds K fdA ["_law_rule"] []) (mA : mg "_law_about" = some (.ref fA)) : FnOk P w K mg base CX0 3 f fd NSR (spSomeRow K) := by
  refine F.ok scSR (fun vs H Q E h => ?_) (fun cdv A outer s H vs Q E hr h => ?_)
  · obtain ⟨c, n, t, k, ss, rfl, _⟩ := h
    rfl
  · obtain ⟨c, n, t, k, ss, rfl, hS, h1, ht, hk, q⟩ := h
    have hr1 : Room 1 _ := hr.mono (by decide)
    have ab := (rule_m k hk).ab
    have al := about_pos k
    refine ⟨_, pss_cons (ps_if (pt_cmpR op_eq (pe_op op_mod (pe_op op_fdiv (pv 0) pe_int) pe_int) pe_int (nomark _)) (pss_one (ps_ret (pe_call GR hr rfl mR kR bR .nil pass0 (pac (pv 0) (pac (pv 1) (pac pe_int pa_nil)))))) pss_nil)
      (pss_cut (fun σ H' => σ = [some (.int c), some (.ref n), some (.ref t)] ∧ Same H H') (ps_if (pw_and (pt_cmpR op_eq (pe_op op_mod (pe_op op_fdiv (pv 0) pe_int) pe_int) pe_int (nomark _)) (pw_and1 (pt_cmpR op_gt (pe_callB call_len_seq (by rfl) T.len Bo.len (pac (pe_call GA hr1 (by rfl) mA kA bA .nil pass0 (pac (pv 2) pa_nil)) pa_nil)) pe_int (nomark _)))).pt
        (pss_one (ps_ret (pe_slice sl_list (pe_slice sl_list (pe_op op_rep (pe_call GA hr1 (by rfl) mA kA bA .nil pass0 (pac (pv 2) pa_nil)) pe_int) (po_some (pe_op op_mod (pe_op op_fdiv (pv 0) pe_int) pe_int)) po_none) po_none (po_some (pe_op op_mod (pv 0) pe_int))))) pss_nil)
      (pss_one (ps_ret (pe_call GR hr rfl mR kR bR .nil pass0 (pac (pv 0) (pac (pe_call GA hr1 (by rfl) mA kA bA .nil pass0 (pac (pv 2) pa_nil)) (pac pe_int pa_nil))))))), ?_⟩
    refine ⟨_, rfl, _, _, rfl, rfl, ⟨by decide, by decide⟩, _, _, rfl, rfl, (by show (0 : Int) < 4; decide), rfl, _, rfl, ite2 (fun g => ⟨_, rfl, _, rfl, c, n, ss, rfl, hS, h1, q⟩) (fun g => ⟨?_, ?_⟩)⟩
    · refine ⟨_, rfl, _, _, rfl, rfl, ⟨by decide, by decide⟩, _, _, rfl, rfl, (by show (0 : Int) < 4; decide), rfl, _, rfl, ite2 (fun g1 => ?_) (fun g1 => ⟨rfl, Same.refl H⟩)⟩
      refine ⟨_, rfl, t, k, rfl, ht, fun l H1 s1 hl hl1 => ⟨l, _, rfl, .inl (SqL.of hl1), _, _, rfl, rfl, _, rfl, ite2 (fun g2 => ?_) (fun g2 => ⟨rfl, s1⟩)⟩⟩
      have hal : 2 ≤ k.about.length := by
        have := of_decide_eq_true g2
        rw [List.length_map] at this
        omega
      have g2' := emod_in (c / 124) (m := 2) (by decide)
      have g31 := emod_in c (m := 31) (by decide)
      obtain ⟨a, ea, ha⟩ : ∃ a : Nat, c / 124 % 2 = a ∧ a ≤ 1 := ⟨(c / 124 % 2).toNat, by omega, by omega⟩
      obtain ⟨b, eb, hb⟩ : ∃ b : Nat, c % 31 = b ∧ b ≤ 30 := ⟨(c % 31).toNat, by omega, by omega⟩
      have fl : (List.replicate 15 (k.about.map V.str)).flatten = ((List.replicate 15 k.about).flatten).map V.str := by rw [List.map_flatten, List.map_replicate]
      have fn : ((List.replicate 15 k.about).flatten).length = 15 * k.about.length := by rw [len_rep]
      refine ⟨_, rfl, t, k, rfl, s1 _ _ ht, fun l2 H2 s2 hl2 hl22 => ⟨l2, 15, _, rfl, rfl, hl22, by decide, by decide, small2 (by rw [List.length_map]; show k.about.length * 15 ≤ _; omega), fun p1 hp1 => ?_⟩⟩
      refine ⟨_, rfl, _, _, rfl, rfl, ⟨by decide, by decide⟩, _, _, rfl, rfl, (by show (0 : Int) < 2; decide), _, rfl, p1, _, rfl, SqL.of upd_same, fun p2 hp2 => ⟨_, rfl, _, _, rfl, rfl, (by show (0 : Int) < 31; decide), _, rfl, p2, _, rfl, SqL.of upd_same, fun p3 hp3 => ?_⟩⟩
      refine q p3 (((List.replicate 15 k.about).flatten.drop a).take b) _ ((s1.trans s2).trans ((smu hp1).trans ((smu hp2).trans (smu hp3)))) (((s1.trans s2).trans ((smu hp1).trans (smu hp2))).free hp3) ?_ (fun z hz => ab z (flat_mem (List.mem_of_mem_drop (List.mem_of_mem_take hz)))) ?_
      · rw [upd_same, ea, eb]
        show some (HO.lst (cutV (cutV (List.replicate 15 (k.about.map V.str)).flatten (some (a : Int)) none) none (some (b : Int)))) = _
        rw [fl, cutFr _ (by rw [List.length_map, fn]; omega), cutTo, List.map_take, List.map_drop]
      · rw [List.length_take]
        omega
    · rintro σ H1 ⟨rfl, s1⟩
      refine ⟨_, rfl, _, rfl, t, k, rfl, s1 _ _ ht, fun l H2 s2 hl hl2 => ⟨c, l, k.about, rfl, SqL.of hl2, al.1, fun l3 row H3 s3 h3 h4 h5 h6 => q l3 row H3 ((s1.trans s2).trans s3) ((s1.trans s2).free h3) h4 (fun z hz => ab z (h5 z hz)) h6⟩⟩
end
end K32
namespace K32
open PySem L2 Ky
seal L2.PE L2.PS L2.PSs L2.PA L2.PT L2.PW L2.PG L2.PI L2.PTs L2.PO L2.OpR L2.IxR L2.CallR L2.MtM L2.MtR
unseal L2.MtM L2.MtR
inductive spLaw (K : PySem.W.Frag) (vs : List V) (H : Hp) (Q : VK) (E : XK) : Prop
  | mk (a : Addr) (ns : List Int) (h0_ : vs = [.ref a]) (h1_ : SqL K H a (ns.map V.int)) (h2_ : ns.length ≤ 63) (h4_ : ∀ H', Q (.bl true) H')
inductive GRow (ss : List Str) (D : Addr) (H : Hp) (v : V) : Prop
  | mk (l : Addr) (row : List Str) (h0_ : v = .ref l) (h1_ : H l = some (.lst (row.map V.str))) (h2_ : ∀ z ∈ row, z ∈ ss) (h3_ : row.length ≤ 30) (h4_ : l ≠ D)
theorem GRow.same {ss : List Str} {D : Addr} {H H' : Hp} {v : V} (R : GRow ss D H v) (sm : Same H H') : GRow ss D H' v := by
  obtain ⟨l, row, e, h1, h2, h3, h4⟩ := R
  exact ⟨l, row, e, sm _ _ h1, h2, h3, h4⟩
theorem GRow.put {ss : List Str} {D : Addr} {H : Hp} {v : V} {o : HO} (R : GRow ss D H v) : GRow ss D (upd H D o) v := by
  obtain ⟨l, row, e, h1, h2, h3, h4⟩ := R
  exact ⟨l, row, e, by rw [upd_ne h4]; exact h1, h2, h3, h4⟩
section
variable {P : Program} {w : World} {K : PySem.W.Frag} {mg : Str → Option Value} {base : Heap}
noncomputable abbrev N32 : List Str := ["_law_script", "_law_names", "_law_free", "_law_words", "_law_deeds", "_law_rule", "_law_machine", "_law_rows", "_law_row_here", "_law_handed", "_law_due_here", "_law_found", "_law_room"]
theorem scL : FnScope N32 ["_law_script"] (defScope sLaw) := ⟨rfl, rfl, rfl, by decide +kernel, rfl, by decide +kernel, by decide +kernel⟩
noncomputable abbrev nd8 : List Str := ["_law_k", "_law_script", "_law_names", "_law_words"]
theorem ok_law {f fC fTD fDr fI fRO fSR fDu fK fBh fE C CM : Addr} {fd fdC fdTD fdDr fdI fdRO fdSR fdDu fdK fdBh fdE : FuncData} {cl : Why → Addr} {Cs : Nat → Addr} {fs : Fin 6 → Addr} {fds : Fin 6 → FuncData} (F : Fun K "law" "law" sLaw f fd)
    (T : Txt K mg) (DC : DCls K C) (MC : MCls K CM) (RC : ∀ i : Fin 6, RCls K (Cs i))
    (GC : FnOk P w K mg base CX0 2 fC fdC ["_law_script", "_law_k"] (spCell K)) (kC : PySem.W.keepIn K (.ref fC) = true) (bC : Binds K fdC ["_law_script", "_law_k"] []) (mC : mg "_law_cell_at" = some (.ref fC))
    (GTD : FnOk P w K mg base CX0 3 fTD fdTD ["_law_cell"] spTwoD) (kTD : PySem.W.keepIn K (.ref fTD) = true) (bTD : Binds K fdTD ["_law_cell"] []) (mTD : mg "_law_two_deeds" = some (.ref fTD))
    (GDr : FnOk P w K mg base CX0 1 fDr fdDr ["_law_cell", "_law_names"] (spDrawn K)) (kDr : PySem.W.keepIn K (.ref fDr) = true) (bDr : Binds K fdDr ["_law_cell", "_law_names"] []) (mDr : mg "_law_drawn" = some (.ref fDr))
    (GI : FnOk P w K mg base (CXE P w) 4 fI fdI ["self", "names", "free"] (spInit K C cl)) (MI : Mk K C fI) (bI : Binds K fdI ["self", "names", "free"] []) (mDe : mg "Deeds" = some (.ref C))
    (GRO : FnOk P w K mg base CX0 4 fRO fdRO ["_law_row_here"] (spRuleOf K Cs)) (kRO : PySem.W.keepIn K (.ref fRO) = true) (bRO : Binds K fdRO ["_law_row_here"] []) (mRO : mg "_law_rule_of" = some (.ref fRO))
    (GM : ∀ i : Fin 6, FnOk P w K mg base CX0 6 (fs i) (fds i) ["self", "deeds"] (spRM C CM Cs i)) (bM : ∀ i : Fin 6, Binds K (fds i) ["self", "deeds"] []) (mM : ∀ i : Fin 6, Meth K (Cs i) "machine" (fs i))
    (GSR : FnOk P w K mg base CX0 3 fSR fdSR NSR (spSomeRow K)) (kSR : PySem.W.keepIn K (.ref fSR) = true) (bSR : Binds K fdSR NSR []) (mSR : mg "_law_some_row" = some (.ref fSR))
    (GDu : FnOk P w K mg base CX0 3 fDu fdDu ["_law_words", "_law_row_here"] (spDue K)) (kDu : PySem.W.keepIn K (.ref fDu) = true) (bDu : Binds K fdDu ["_law_words", "_law_row_here"] []) (mDu : mg "_law_due" = some (.ref fDu))
    (GK : FnOk P w K mg base CX0 7 fK fdK ["rule", "deeds", "row"] (spKeeps K C Cs)) (kK : PySem.W.keepIn K (.ref fK) = true) (bK : Binds K fdK ["rule", "deeds", "row"] []) (mK : mg "keeps" = some (.ref fK))
    (GB : FnOk P w K mg base (CXE P w) 4 fBh fdBh ["self", "row"] (spMBehind K C CM cl)) (bB : Binds K fdBh ["self", "row"] []) (mB : Meth K CM "behind" fBh)
    (GE : FnOk P w K mg base CX0 3 fE fdE ["self", "room"] (spMIsEnd CM)) (bE : Binds K fdE ["self", "room"] []) (mE : Meth K CM "is_end" fE) : FnOk P w K mg base CX0 9 f fd ["_law_script"] (spLaw K) := by
  refine F.ok scL (fun vs H Q E h => ?_) (fun cdv A outer s H vs Q E hr h => ?_)
  · obtain ⟨a, ns, rfl, _⟩ := h
    rfl
  · obtain ⟨a, ns, rfl, hS, hlen, kq⟩ := h
    have hr1 : Room 1 _ := hr.mono (by decide)
    have hr2 : Room 2 _ := hr.mono (by decide)
    have hr3 : Room 3 _ := hr.mono (by decide)
    have hr4 : Room 4 _ := hr.mono (by decide)
    have hr5 : Room 5 _ := hr.mono (by decide)
    have hr6 : Room 6 _ := hr.mono (by decide)
    have hr7 : Room 7 _ := hr.mono (by decide)
    have hu := hu_of hr
    have hu0 := Nat.lt_of_succ_lt hu
    refine ⟨_, pss_cons (ps_asg (pe_call GTD hr3 rfl mTD kTD bTD .nil pass0 (pac (pe_call GC hr2 (by rfl) mC kC bC .nil pass0 (pac (pv 0) (pac pe_int pa_nil))) pa_nil)) (pg_tup rfl (pgs_cons (pg_name (i := 1) scL.nd rfl (Or.inr rfl)) (pgs_cons (pg_name (i := 2) scL.nd rfl (Or.inl rfl)) pgs_nil))))
      (pss_cons (ps_set (i := 3) scL.nd rfl (Or.inr rfl) (pe_call GDr hr1 rfl mDr kDr bDr .nil pass0 (pac (pe_call GC hr2 (by rfl) mC kC bC .nil pass0 (pac (pv 0) (pac pe_int pa_nil))) (pac (pv 1) pa_nil))))
      (pss_cons (ps_set (i := 4) scL.nd rfl (Or.inl rfl) (pe_make MI GI hr5 rfl mDe bI .nil passF (pac (pv 1) (pac (pv 2) pa_nil))))
      (pss_cons (ps_set (i := 5) scL.nd rfl (Or.inl rfl) (pe_call GRO hr4 rfl mRO kRO bRO .nil pass0 (pac (pv 3) pa_nil)))
      (pss_cons (ps_set (i := 6) scL.nd rfl (Or.inl rfl) (pe_methP (Cs := fun i : Fin 6 => Cs i) (fds := fds) (sps := fun i : Fin 6 => spRM C CM Cs i) (pv 5) (fun i => (RC i).cl) mM GM hr6 bM pass0 (pac (pv 4) pa_nil)))
      (pss_cons (ps_setcomp (i := 7) (N' := nd8) (nown := 1) (js := [0, 1, 3]) rfl scL.nd rfl rfl rfl ⟨rfl, by decide +kernel, by decide +kernel⟩ (blkNames (defScope sLaw) N32 rfl rfl (by decide +kernel))
          ⟨fun _ _ _ _ => pg_name (i := 0) (show List.Nodup nd8 by decide +kernel) rfl (Or.inl rfl) (.inr rfl), fun _ _ _ _ => pts_nil, fun _ _ _ _ => pe_call GSR hr3 rfl mSR kSR bSR .nil pass0 (pac (pe_call GC hr2 rfl mC kC bC .nil pass0 (pac (pv 1) (pac (pe_op op_add pe_int (pv 0)) pa_nil))) (pac (pv 2) (pac (pv 3) pa_nil)))⟩
          (pi_range1 rfl T.range (pac pe_int pa_nil)))
      (pss_cons (ps_for PassesOwn.never rfl (pi_list (pe_op op_cat (pv 7) (pe_rev (pv 7) (po_some (pe_un un_neg pe_int))))) (pg_name (i := 8) scL.nd rfl (Or.inl rfl))
        (pss_cons (ps_set (i := 9) scL.nd rfl (Or.inl rfl) (pe_callTy call_list_of (by rfl) T.list Bo.list (pac (pv 8) pa_nil)))
        (pss_cons (ps_set (i := 10) scL.nd rfl (Or.inl rfl) (pe_call GDu hr3 rfl mDu kDu bDu .nil pass0 (pac (pv 3) (pac (pv 8) pa_nil))))
        (pss_cons (ps_set (i := 11) scL.nd rfl (Or.inl rfl) (pe_call GK hr7 rfl mK kK bK .nil pass0 (pac (pv 5) (pac (pv 4) (pac (pv 9) pa_nil)))))
        (pss_cons (ps_if (pw_or (pt_not (pt_val (pe_callB call_isi (by rfl) T.isi Bo.isinstance (pac (pv 11) (pac (pe_bltn (v := .ty "bool") (by rfl) T.bool Bo.bool rfl) pa_nil))))) (pw_or (pt_cmpR op_ne (pv 11) (pe_cmpR op_notN (pv 10) pe_non (nomark _)) (nomark _)) (pw_or1 (pt_cmpR (op_neSs hu0) (pv 9) (pv 8) (nomark _))))).pt (pss_one (ps_ret pe_bl)) pss_nil)
        (pss_cons (ps_set (i := 12) scL.nd rfl (Or.inl rfl) (pe_meth (pv 6) MC.cl mB GB hr4 bB .nil passF (pac (pv 9) pa_nil)))
        (pss_cons (ps_if (pt_cmpR op_ne (pe_cmpR op_isN (pv 12) pe_non (nomark _)) (pe_cmpR op_isN (pv 10) pe_non (nomark _)) (nomark _)) (pss_one (ps_ret pe_bl)) pss_nil)
        (pss_one (ps_if (pw_and (pt_cmpR op_notN (pv 10) pe_non (nomark _)) (pw_and1 (pt_cmpR op_ne (pe_meth (pv 6) MC.cl mE GE hr3 bE .nil pass0 (pac (pv 12) pa_nil)) (pe_or (pe_cmpR op_ne (pe_ix ix_tup (pv 3) pe_int (fun _ _ => rfl)) pe_str (nomark _)) (pe_one (pe_cmpR op_eq (pv 10) pe_int (nomark _)))) (nomark _)))).pt (pss_one (ps_ret pe_bl)) pss_nil)))))))))
      (pss_one (ps_ret pe_bl)))))))), ?_⟩
    refine ⟨_, rfl, a, ns, 0, rfl, hS, RW.cellAt ns 0, rfl, fun t0 l m ss fs H1 td s1 ht0 hl hm => ⟨t0, _, rfl, SqT.of ht0, rfl, _, _, rfl, _, _, rfl, rfl, ?_⟩⟩
    refine ⟨_, rfl, a, ns, 1, rfl, s1.seq hS, _, rfl, RW.cellAt ns 1, l, ss, rfl, SqL.of hl, ⟨td.l2, td.le⟩, td.nd, fun t k H2 s2 hk ht => ?_⟩
    have hnm : ∀ z ∈ ss, isNameS z = true := fun z hz => some_names z (td.m12 z hz)
    have sh : Short ss := fun z hz => Nat.le_trans (name_len (hnm z hz)) (by decide)
    refine ⟨_, rfl, _, rfl, fun x dx hx hdx _ => ?_⟩
    have k1 : Same H2 (upd (upd H2 dx (.own x)) x (.ins C dx [])) := fun b o e => by rw [upd_ne (ne_of_none e hx), upd_ne (ne_of_none e hdx)]; exact e
    have hl2 := s2 _ _ hl
    have hm2 := s2 _ _ hm
    refine ⟨x, l, .ref m, dx, ss, fs, rfl, upd_same, SqL.of (k1 _ _ hl2), .inr ⟨m, rfl, SqL.of (k1 _ _ hm2)⟩, sh, fun z hz => sh z (td.fr z hz), by have := td.fl; omega, fun H3 sb => ?_⟩
    rw [deeds_ok td.le hnm td.nd td.fr]
    intro dw df o S e1 e2 e3 pm so
    have s3 : Same H2 H3 := fun b u e => sb b u (ne_of_none e hx) (k1 b u e)
    have W3 : WAt C H3 x (wts S 1 []) := ⟨dx, _, dw, o, e1, noW2 _ _, by rfl, e2⟩
    have hgood : ∀ z ∈ ss, goodV (wts S 1 []) (.str z) = true := fun z hz => by
      rw [goodV, valV_wts, hnm z hz]
      simp [pm.mem_iff.mpr hz]
    refine ⟨rfl, _, rfl, t, k, ss, rfl, s3 _ _ ht, hk, fun X H4 s4 R4 => ?_⟩
    have R4' := R4
    obtain ⟨dX, hX4⟩ := R4'
    refine ⟨_, rfl, ⟨k.idx, idx6 k⟩, X, dX, _, rfl, hX4, flds_mth k "machine" (by decide), _, rfl, X, x, k, ss, wts S 1 [], rfl, rfl, R4, hk, hgood, sh, wSame W3 s4, fun M H5 s5 M5 => ?_⟩
    have s25 := s3.trans (s4.trans s5)
    have ht5 := s25 _ _ ht
    have hl5 := s25 _ _ hl2
    have R5 := R4.same s5
    have W5 := wSame W3 (s4.trans s5)
    have hS5 := ((s1.trans s2).trans s25).seq hS
    clear hx hdx k1 sb e1 e2 e3 W3 R4 hX4 s3 s4 s5 hl2 hm2 hm ht hl
    have sqk : ∀ {H' : Hp} {D : Addr}, H5 D = none → (∀ b o, b ≠ D → H5 b = some o → H' b = some o) → ∀ {p : Addr} {xs : List V}, SqL K H5 p xs → SqL K H' p xs := fun {H' D} hD kp {p xs} h => by
      rcases h with (h | ⟨o, h⟩) | h
      · exact .inl (.inl (kp _ _ (ne_of_none h hD) h))
      · exact .inl (.inr ⟨o, kp _ _ (ne_of_none h hD) h⟩)
      · exact .inr h
    refine ⟨8, rfl, by decide, by decide, fun D hD => blk_range (n := 8) (lo := 0) (fun i σ' H' => ∃ v, σ' = [v, some (.ref a), some (.ref l), some (.ref t)] ∧ (∃ vs, H' D = some (.lst vs) ∧ vs.length = i ∧ ∀ v ∈ vs, GRow ss D H' v) ∧ ∀ b o, b ≠ D → H5 b = some o → H' b = some o) ?_ ?_ ?_⟩
    · exact ⟨none, rfl, ⟨[], upd_same, rfl, fun v hv => (nomatch hv)⟩, fun b o n e => by rw [upd_ne n]; exact e⟩
    · rintro i σ' H' hi ⟨v, rfl, ⟨vs, h1, h2, h3⟩, kp⟩
      refine ⟨_, rfl, _, rfl, _, _, rfl, rfl, a, ns, 2 + i, by rw [Int.natCast_add, Int.zero_add]; rfl, sqk hD kp hS5, _, rfl, _, rfl, RW.cellAt ns (2 + i), l, t, k, ss, rfl, sqk hD kp (SqL.of hl5), by have := td.l2; omega, kp _ _ (ne_of_none ht5 hD) ht5, hk, fun l2 row H6 s6 hl2 hl26 hin hle => ?_⟩
      have h16 := s6 _ _ h1
      refine ⟨_, h16, small1000 (by omega), _, rfl, ⟨vs ++ [.ref l2], upd_same, by rw [List.length_append, h2]; rfl, fun u hu => ?_⟩, fun b o n e => by rw [upd_ne n]; exact s6 _ _ (kp b o n e)⟩
      rcases List.mem_append.mp hu with hu | hu
      · exact ((h3 u hu).same s6).put
      · rw [List.mem_singleton.mp hu]
        exact (GRow.mk l2 row rfl hl26 hin hle (fun z => by rw [z, h1] at hl2; cases hl2)).put
    rintro σ' H6 ⟨v, rfl, ⟨vs, h1, h2, h3⟩, kp⟩
    have s6 : Same H5 H6 := fun b o e => kp b o (ne_of_none e hD) e
    refine ⟨_, rfl, _, rfl, _, rfl, _, rfl, rfl, D, _, rfl, SqL.of h1, fun q1 hq1 => ⟨D, q1, _, _, rfl, rfl, smu hq1 _ _ h1, upd_same, small2 (by rw [List.length_reverse]; omega), fun q2 hq2 => ⟨q2, rfl, ⟨_, SqL.of upd_same⟩, ?_⟩⟩⟩
    have s7 := (smu (o := .lst vs.reverse) hq1).trans (smu (o := .lst (vs ++ vs.reverse)) hq2)
    have e7 : (upd (upd H6 q1 (.lst vs.reverse)) q2 (.lst (vs ++ vs.reverse))) q2 = some (.lst (vs ++ vs.reverse)) := upd_same
    generalize upd (upd H6 q1 (.lst vs.reverse)) q2 (.lst (vs ++ vs.reverse)) = H7 at s7 e7 ⊢
    have g7 : ∀ v ∈ vs ++ vs.reverse, GRow ss D H7 v := fun v hv => (h3 v ((List.mem_append.mp hv).elim id fun h => List.mem_reverse.mp h)).same s7
    have s57 := s6.trans s7
    have ht7 := s57 _ _ ht5
    have R7 := R5.same s57
    have W7 := wSame W5 s57
    have M7 := M5.same s57
    have RM7 := rule_m k hk
    clear hD h1 h2 h3 kp s6 hq1 hq2 s7 ht5 hl5 R5 W5 hS5 M5 s57
    refine for_list (xs := vs ++ vs.reverse) (fun i σ H' => ∃ (x8 x9 x10 x11 x12 : Option V), σ = [some (.ref a), some (.ref l), some (.ref m), some (.ref t), some (.ref x), some (.ref X), some (.ref M), some (.ref D), x8, x9, x10, x11, x12] ∧ Same H7 H') ?_ ?_ ?_ ?_
    · exact ⟨none, none, none, none, none, rfl, Same.refl H7⟩
    · rintro i σ H' _ ⟨x8, x9, x10, x11, x12, rfl, sm⟩
      exact SqL.of (sm _ _ e7)
    · rintro i v σ H' hv ⟨x8, x9, x10, x11, x12, rfl, sm⟩
      obtain ⟨lr, row, rfl, hr0, hin, hle, _⟩ := (g7 v (List.mem_of_getElem? hv)).same sm
      refine ⟨_, rfl, lr, _, rfl, .inl (SqL.of hr0), fun p9 hp9 => ?_⟩
      have s9 := sm.trans (smu (o := .lst (row.map V.str)) hp9)
      have hr9 := smu (o := .lst (row.map V.str)) hp9 _ _ hr0
      have hp9' : (upd H' p9 (.lst (row.map V.str))) p9 = some (.lst (row.map V.str)) := upd_same
      generalize upd H' p9 (.lst (row.map V.str)) = H9 at s9 hr9 hp9' ⊢
      refine ⟨_, rfl, _, rfl, t, lr, k, ss, row, rfl, s9 _ _ ht7, hk, SqL.of hr9, fun H10 s10 => ?_⟩
      have sA := s9.trans s10
      refine ⟨_, rfl, _, rfl, _, rfl, X, x, p9, k, ss, row, wts S 1 [], rfl, R7.same sA, hk, hgood, sh, wSame W7 sA, SqL.of (s10 _ _ hp9'), hin, fun H11 s11 => ?_⟩
      have sB := sA.trans s11
      have hp11 := s11 _ _ (s10 _ _ hp9')
      have hr11 := s11 _ _ (s10 _ _ hr9)
      obtain ⟨dM, lM, eM, kM, kvM, gM, MA⟩ := M7.same sB
      obtain ⟨wd1, wd2⟩ := walk_due k hk row 0 (Nat.zero_le _)
      have hall : (row.map V.str).all (goodV (wts S 1 [])) = true := List.all_eq_true.mpr fun v hv => by
        obtain ⟨z, hz, rfl⟩ := List.mem_map.mp hv
        exact hgood z (hin z hz)
      cases hd : k.due 0 row with
      | none =>
        refine ⟨_, rfl, .bl _, .ty "bool", .type "bool", .type "bool", true, rfl, rel_ty, TyOf.bl _, rfl, _, rfl, iteF ⟨_, rfl, _, rfl, rfl, rfl, _, rfl, ite2 (fun y => absurd y (by decide)) fun _ => ⟨_, rfl, _, rfl, p9, lr, row, row, rfl, rfl, SqL.of hp11, SqL.of hr11, _, rfl, ite2 (fun y => absurd y (by simp)) fun _ => ?_⟩⟩⟩
        refine ⟨_, rfl, M, dM, _, rfl, MA.ins, mFlds_mth _ _ _ _ _ _ (by decide), _, rfl, M, x, p9, rmN 0, k.ends, k.kn, row, k.doors, wts S 1 [], rfl, ⟨dM, lM, eM, kM, kvM, gM, MA⟩, wSame W7 sB, SqL.of hp11, fun z hz => sh z (hin z hz), RM7.nm, fun H12 s12 => ?_⟩
        rw [if_pos hall, wd1, hd]
        refine ⟨_, rfl, rfl, _, rfl, rfl, rfl, _, rfl, ite2 (fun y => absurd y (by decide)) fun _ => ?_⟩
        exact ⟨_, rfl, rfl, _, rfl, iteF ⟨_, _, _, _, _, rfl, sB.trans s12⟩⟩
      | some z =>
        have hz := wd2 z hd
        refine ⟨_, rfl, .bl _, .ty "bool", .type "bool", .type "bool", true, rfl, rel_ty, TyOf.bl _, rfl, _, rfl, iteF ⟨_, rfl, _, rfl, rfl, rfl, _, rfl, ite2 (fun y => absurd y (by simp [oI])) fun _ => ⟨_, rfl, _, rfl, p9, lr, row, row, rfl, rfl, SqL.of hp11, SqL.of hr11, _, rfl, ite2 (fun y => absurd y (by simp)) fun _ => ?_⟩⟩⟩
        refine ⟨_, rfl, M, dM, _, rfl, MA.ins, mFlds_mth _ _ _ _ _ _ (by decide), _, rfl, M, x, p9, rmN 0, k.ends, k.kn, row, k.doors, wts S 1 [], rfl, ⟨dM, lM, eM, kM, kvM, gM, MA⟩, wSame W7 sB, SqL.of hp11, fun z hz => sh z (hin z hz), RM7.nm, fun H12 s12 => ?_⟩
        rw [if_pos hall, wd1, hd]
        refine ⟨_, rfl, rfl, _, rfl, rfl, rfl, _, rfl, ite2 (fun y => absurd y (by simp [oI, oV])) fun _ => ?_⟩
        have sC := sB.trans s12
        have MC12 := MA.same s12
        have hrm := st_room k hz
        refine ⟨_, rfl, rfl, _, rfl, iteT ⟨_, rfl, M, dM, _, rfl, MC12.ins, mFlds_mth _ _ _ _ _ _ (by decide), _, rfl, M, x, rmN 0, rmN z, k.ends, k.kn, k.doors, rfl, ⟨dM, lM, eM, kM, kvM, gM, MC12⟩, hrm, List.all_eq_true.mp RM7.nm _ hrm, fun H13 s13 => ?_⟩⟩
        have sD := sC.trans s13
        have se := st_end k hk hz
        refine ⟨_, rfl, t, _, _, .str k.word, rfl, rfl, SqT.of (sD _ _ ht7), at0 k, rfl, _, rfl, ite2 (fun y => ?_) (fun y => ?_)⟩
        · have hw : k.word ≠ "answer" := fun e => by
            rw [e] at y
            exact absurd y (by simp)
          refine ⟨rfl, _, rfl, ite2 (fun u => absurd u ?_) fun _ => ⟨_, _, _, _, _, rfl, sD⟩⟩
          rw [decide_eq_true (se.mpr (.inl hw))]
          simp
        · have hw : k.word = "answer" := Decidable.byContradiction fun e => y (by
            rw [decide_eq_false (fun q => e (V.str.inj q))]
            rfl)
          refine ⟨_, rfl, rfl, rfl, _, rfl, ite2 (fun u => absurd u ?_) fun _ => ⟨_, _, _, _, _, rfl, sD⟩⟩
          have e1 : decide (rmN z ∈ k.ends) = decide (V.int (z : Int) = V.int 0) := by
            rw [decide_eq_decide, se]
            constructor
            · rintro (h | rfl)
              · exact absurd hw h
              · rfl
            · intro h
              have := V.int.inj h
              exact .inr (by omega)
          rw [e1]
          simp [oI]
    · rintro σ H' ⟨x8, x9, x10, x11, x12, rfl, sm⟩
      exact kq H'
end
end K32
namespace K32
open PySem L2 Ky
theorem len5 {α : Type} {p : List α → Prop} (h : ∀ a b c d e, p [a, b, c, d, e]) : ∀ us : List α, us.length = 5 → p us
  | [a, b, c, d, e], _ => h a b c d e
theorem len6 {α : Type} {p : List α → Prop} (h : ∀ a b c d e f, p [a, b, c, d, e, f]) : ∀ us : List α, us.length = 6 → p us
  | [a, b, c, d, e, f], _ => h a b c d e f
theorem fin6 {p : Fin 6 → Prop} (h0 : p 0) (h1 : p 1) (h2 : p 2) (h3 : p 3) (h4 : p 4) (h5 : p 5) : ∀ i, p i
  | 0 => h0 | 1 => h1 | 2 => h2 | 3 => h3 | 4 => h4 | 5 => h5
theorem all_mk {l : PySem.W.OpenLaw} {w : World} {K : PySem.W.Frag} {h : Heap} {mg : Str → Option Value} {fa f1 f2 f3 f4 f5 f6 f7 f8 f9 f10 f11 f12 f13 f14 f15 f16 f17 f18 f19 f20 f21 f22 fm0 fm1 fM0 fM1 fM2 fM3 fMI fI fi0 fg0 fb0 fi1 fg1 fb1 fi2 fg2 fi3 fg3 fi4 fg4 fi5 fg5 fZ C CM CT Td Te R0 R1 R2 R3 R4 R5 d0 d1 d3 d4 : Addr} (X : K.In h) (G : h.Ns mainGlobals mg) (hfa : mg "law" = some (.ref fa))
    {oc1 kV1 dc1 pm1 ct1 cd1 : Value} {od1 an1 : Option Addr} {sl1 : Array (Option Value)} {oc2 kV2 dc2 pm2 ct2 cd2 : Value} {od2 an2 : Option Addr} {sl2 : Array (Option Value)} {oc3 kV3 dc3 pm3 ct3 cd3 : Value} {od3 an3 : Option Addr} {sl3 : Array (Option Value)} {oc4 kV4 dc4 pm4 ct4 cd4 : Value} {od4 an4 : Option Addr} {sl4 : Array (Option Value)} {oc5 kV5 dc5 pm5 ct5 cd5 : Value} {od5 an5 : Option Addr} {sl5 : Array (Option Value)} {oc6 kV6 dc6 pm6 ct6 cd6 : Value} {od6 an6 : Option Addr} {sl6 : Array (Option Value)} {oc7 kV7 dc7 pm7 ct7 cd7 : Value} {od7 an7 : Option Addr} {sl7 : Array (Option Value)} {oc8 kV8 dc8 pm8 ct8 cd8 : Value} {od8 an8 : Option Addr} {sl8 : Array (Option Value)} {oc9 kV9 dc9 pm9 ct9 cd9 : Value} {od9 an9 : Option Addr} {sl9 : Array (Option Value)} {oc10 kV10 dc10 pm10 ct10 cd10 : Value} {od10 an10 : Option Addr} {sl10 : Array (Option Value)} {oc11 kV11 dc11 pm11 ct11 cd11 : Value} {od11 an11 : Option Addr} {sl11 : Array (Option Value)} {oc12 kV12 dc12 pm12 ct12 cd12 : Value} {od12 an12 : Option Addr} {sl12 : Array (Option Value)} {oc13 kV13 dc13 pm13 ct13 cd13 : Value} {od13 an13 : Option Addr} {sl13 : Array (Option Value)} {oc14 kV14 dc14 pm14 ct14 cd14 : Value} {od14 an14 : Option Addr} {sl14 : Array (Option Value)} {oc15 kV15 dc15 pm15 ct15 cd15 : Value} {od15 an15 : Option Addr} {sl15 : Array (Option Value)} {oc16 kV16 dc16 pm16 ct16 cd16 : Value} {od16 an16 : Option Addr} {sl16 : Array (Option Value)} {oc17 kV17 dc17 pm17 ct17 cd17 : Value} {od17 an17 : Option Addr} {sl17 : Array (Option Value)} {oc18 kV18 dc18 pm18 ct18 cd18 : Value} {od18 an18 : Option Addr} {sl18 : Array (Option Value)} {oc19 kV19 dc19 pm19 ct19 cd19 : Value} {od19 an19 : Option Addr} {sl19 : Array (Option Value)} {oc20 kV20 dc20 pm20 ct20 cd20 : Value} {od20 an20 : Option Addr} {sl20 : Array (Option Value)} {oc21 kV21 dc21 pm21 ct21 cd21 : Value} {od21 an21 : Option Addr} {sl21 : Array (Option Value)} {oc22 kV22 dc22 pm22 ct22 cd22 : Value} {od22 an22 : Option Addr} {sl22 : Array (Option Value)} {ocm0 kVm0 dcm0 pmm0 ctm0 cdm0 : Value} {odm0 anm0 : Option Addr} {slm0 : Array (Option Value)} {ocm1 kVm1 dcm1 pmm1 ctm1 cdm1 : Value} {odm1 anm1 : Option Addr} {slm1 : Array (Option Value)} {ocM0 kVM0 dcM0 pmM0 ctM0 cdM0 : Value} {odM0 anM0 : Option Addr} {slM0 : Array (Option Value)} {ocM1 kVM1 dcM1 pmM1 ctM1 cdM1 : Value} {odM1 anM1 : Option Addr} {slM1 : Array (Option Value)} {ocM2 kVM2 dcM2 pmM2 ctM2 cdM2 : Value} {odM2 anM2 : Option Addr} {slM2 : Array (Option Value)} {ocM3 kVM3 dcM3 pmM3 ctM3 cdM3 : Value} {odM3 anM3 : Option Addr} {slM3 : Array (Option Value)} {ocMI kVMI dcMI pmMI ctMI cdMI : Value} {odMI anMI : Option Addr} {slMI : Array (Option Value)} {ocE : Value} {odE : Option Addr} {slE : Array (Option Value)} {nE : Nat} {ocI kVI dcI pmI ctI cdI : Value} {odI anI : Option Addr} {slI : Array (Option Value)} {ocT : Value} {odT : Option Addr} {slT : Array (Option Value)} {nT : Nat} {oci0 kVi0 dci0 pmi0 cti0 cdi0 : Value} {odi0 ani0 : Option Addr} {sli0 : Array (Option Value)} {ocg0 kVg0 dcg0 pmg0 ctg0 cdg0 : Value} {odg0 ang0 : Option Addr} {slg0 : Array (Option Value)} {ocb0 kVb0 dcb0 pmb0 ctb0 cdb0 : Value} {odb0 anb0 : Option Addr} {slb0 : Array (Option Value)} {oci1 kVi1 dci1 pmi1 cti1 cdi1 : Value} {odi1 ani1 : Option Addr} {sli1 : Array (Option Value)} {ocg1 kVg1 dcg1 pmg1 ctg1 cdg1 : Value} {odg1 ang1 : Option Addr} {slg1 : Array (Option Value)} {ocb1 kVb1 dcb1 pmb1 ctb1 cdb1 : Value} {odb1 anb1 : Option Addr} {slb1 : Array (Option Value)} {oci2 kVi2 dci2 pmi2 cti2 cdi2 : Value} {odi2 ani2 : Option Addr} {sli2 : Array (Option Value)} {ocg2 kVg2 dcg2 pmg2 ctg2 cdg2 : Value} {odg2 ang2 : Option Addr} {slg2 : Array (Option Value)} {oci3 kVi3 dci3 pmi3 cti3 cdi3 : Value} {odi3 ani3 : Option Addr} {sli3 : Array (Option Value)} {ocg3 kVg3 dcg3 pmg3 ctg3 cdg3 : Value} {odg3 ang3 : Option Addr} {slg3 : Array (Option Value)} {oci4 kVi4 dci4 pmi4 cti4 cdi4 : Value} {odi4 ani4 : Option Addr} {sli4 : Array (Option Value)} {ocg4 kVg4 dcg4 pmg4 ctg4 cdg4 : Value} {odg4 ang4 : Option Addr} {slg4 : Array (Option Value)} {oci5 kVi5 dci5 pmi5 cti5 cdi5 : Value} {odi5 ani5 : Option Addr} {sli5 : Array (Option Value)} {ocg5 kVg5 dcg5 pmg5 ctg5 cdg5 : Value} {odg5 ang5 : Option Addr} {slg5 : Array (Option Value)} {ocZ kVZ dcZ pmZ ctZ cdZ : Value} {odZ anZ : Option Addr} {slZ : Array (Option Value)} {t0 t1 t2 t3 t4 t5 : Tok}
    (a1 : PySem.W.nsIn K mainGlobals "_law_mixed" = some (some (.ref f1)))
    (l1 : K.lookup f1 = some ⟨oc1, od1, .func (PySem.W.fnOf "_law_mixed" "_law_mixed" (defArgs sMixed) (defBody sMixed) (defScope sMixed) .none kV1 dc1 pm1 an1 cd1 ct1), sl1⟩)
    (c1 : PySem.W.codeIn K cd1 "_law_mixed" = true)
    (k1 : PySem.W.keepIn K (.ref f1) = true)
    (a2 : PySem.W.nsIn K mainGlobals "_law_cell_at" = some (some (.ref f2)))
    (l2 : K.lookup f2 = some ⟨oc2, od2, .func (PySem.W.fnOf "_law_cell_at" "_law_cell_at" (defArgs sCell) (defBody sCell) (defScope sCell) .none kV2 dc2 pm2 an2 cd2 ct2), sl2⟩)
    (c2 : PySem.W.codeIn K cd2 "_law_cell_at" = true)
    (k2 : PySem.W.keepIn K (.ref f2) = true)
    (a3 : PySem.W.nsIn K mainGlobals "is_name" = some (some (.ref f3)))
    (l3 : K.lookup f3 = some ⟨oc3, od3, .func (PySem.W.fnOf "is_name" "is_name" (defArgs sName) (defBody sName) (defScope sName) .none kV3 dc3 pm3 an3 cd3 ct3), sl3⟩)
    (c3 : PySem.W.codeIn K cd3 "is_name" = true)
    (k3 : PySem.W.keepIn K (.ref f3) = true)
    (a4 : PySem.W.nsIn K mainGlobals "refuse_names" = some (some (.ref f4)))
    (l4 : K.lookup f4 = some ⟨oc4, od4, .func (PySem.W.fnOf "refuse_names" "refuse_names" (defArgs sRefuse) (defBody sRefuse) (defScope sRefuse) .none kV4 dc4 pm4 an4 cd4 ct4), sl4⟩)
    (c4 : PySem.W.codeIn K cd4 "refuse_names" = true)
    (k4 : PySem.W.keepIn K (.ref f4) = true)
    (a5 : PySem.W.nsIn K mainGlobals "weights_of" = some (some (.ref f5)))
    (l5 : K.lookup f5 = some ⟨oc5, od5, .func (PySem.W.fnOf "weights_of" "weights_of" (defArgs sWeights) (defBody sWeights) (defScope sWeights) .none kV5 dc5 pm5 an5 cd5 ct5), sl5⟩)
    (c5 : PySem.W.codeIn K cd5 "weights_of" = true)
    (k5 : PySem.W.keepIn K (.ref f5) = true)
    (a6 : PySem.W.nsIn K mainGlobals "marks_of" = some (some (.ref f6)))
    (l6 : K.lookup f6 = some ⟨oc6, od6, .func (PySem.W.fnOf "marks_of" "marks_of" (defArgs sMarks) (defBody sMarks) (defScope sMarks) .none kV6 dc6 pm6 an6 cd6 ct6), sl6⟩)
    (c6 : PySem.W.codeIn K cd6 "marks_of" = true)
    (k6 : PySem.W.keepIn K (.ref f6) = true)
    (a7 : PySem.W.nsIn K mainGlobals "_law_names_by" = some (some (.ref f7)))
    (l7 : K.lookup f7 = some ⟨oc7, od7, .func (PySem.W.fnOf "_law_names_by" "_law_names_by" (defArgs sNamesBy) (defBody sNamesBy) (defScope sNamesBy) .none kV7 dc7 pm7 an7 cd7 ct7), sl7⟩)
    (c7 : PySem.W.codeIn K cd7 "_law_names_by" = true)
    (k7 : PySem.W.keepIn K (.ref f7) = true)
    (a8 : PySem.W.nsIn K mainGlobals "_law_deeds_by" = some (some (.ref f8)))
    (l8 : K.lookup f8 = some ⟨oc8, od8, .func (PySem.W.fnOf "_law_deeds_by" "_law_deeds_by" (defArgs sDeedsBy) (defBody sDeedsBy) (defScope sDeedsBy) .none kV8 dc8 pm8 an8 cd8 ct8), sl8⟩)
    (c8 : PySem.W.codeIn K cd8 "_law_deeds_by" = true)
    (k8 : PySem.W.keepIn K (.ref f8) = true)
    (a9 : PySem.W.nsIn K mainGlobals "named_rooms" = some (some (.ref f9)))
    (l9 : K.lookup f9 = some ⟨oc9, od9, .func (PySem.W.fnOf "named_rooms" "named_rooms" (defArgs sNamed) (defBody sNamed) (defScope sNamed) .none kV9 dc9 pm9 an9 cd9 ct9), sl9⟩)
    (c9 : PySem.W.codeIn K cd9 "named_rooms" = true)
    (k9 : PySem.W.keepIn K (.ref f9) = true)
    (a10 : PySem.W.nsIn K mainGlobals "refuse_rooms" = some (some (.ref f10)))
    (l10 : K.lookup f10 = some ⟨oc10, od10, .func (PySem.W.fnOf "refuse_rooms" "refuse_rooms" (defArgs sRefRooms) (defBody sRefRooms) (defScope sRefRooms) .none kV10 dc10 pm10 an10 cd10 ct10), sl10⟩)
    (c10 : PySem.W.codeIn K cd10 "refuse_rooms" = true)
    (k10 : PySem.W.keepIn K (.ref f10) = true)
    (a11 : PySem.W.nsIn K mainGlobals "leads_of" = some (some (.ref f11)))
    (l11 : K.lookup f11 = some ⟨oc11, od11, .func (PySem.W.fnOf "leads_of" "leads_of" (defArgs sLeads) (defBody sLeads) (defScope sLeads) .none kV11 dc11 pm11 an11 cd11 ct11), sl11⟩)
    (c11 : PySem.W.codeIn K cd11 "leads_of" = true)
    (k11 : PySem.W.keepIn K (.ref f11) = true)
    (a12 : PySem.W.nsIn K mainGlobals "is_times" = some (some (.ref f12)))
    (l12 : K.lookup f12 = some ⟨oc12, od12, .func (PySem.W.fnOf "is_times" "is_times" (defArgs sTimes) (defBody sTimes) (defScope sTimes) .none kV12 dc12 pm12 an12 cd12 ct12), sl12⟩)
    (c12 : PySem.W.codeIn K cd12 "is_times" = true)
    (k12 : PySem.W.keepIn K (.ref f12) = true)
    (a13 : PySem.W.nsIn K mainGlobals "keeps" = some (some (.ref f13)))
    (l13 : K.lookup f13 = some ⟨oc13, od13, .func (PySem.W.fnOf "keeps" "keeps" (defArgs sKeeps) (defBody sKeeps) (defScope sKeeps) .none kV13 dc13 pm13 an13 cd13 ct13), sl13⟩)
    (c13 : PySem.W.codeIn K cd13 "keeps" = true)
    (k13 : PySem.W.keepIn K (.ref f13) = true)
    (a14 : PySem.W.nsIn K mainGlobals "_law_rule_of" = some (some (.ref f14)))
    (l14 : K.lookup f14 = some ⟨oc14, od14, .func (PySem.W.fnOf "_law_rule_of" "_law_rule_of" (defArgs sRuleOf) (defBody sRuleOf) (defScope sRuleOf) .none kV14 dc14 pm14 an14 cd14 ct14), sl14⟩)
    (c14 : PySem.W.codeIn K cd14 "_law_rule_of" = true)
    (k14 : PySem.W.keepIn K (.ref f14) = true)
    (a15 : PySem.W.nsIn K mainGlobals "_law_about" = some (some (.ref f15)))
    (l15 : K.lookup f15 = some ⟨oc15, od15, .func (PySem.W.fnOf "_law_about" "_law_about" (defArgs sAboutL) (defBody sAboutL) (defScope sAboutL) .none kV15 dc15 pm15 an15 cd15 ct15), sl15⟩)
    (c15 : PySem.W.codeIn K cd15 "_law_about" = true)
    (k15 : PySem.W.keepIn K (.ref f15) = true)
    (a16 : PySem.W.nsIn K mainGlobals "_law_next" = some (some (.ref f16)))
    (l16 : K.lookup f16 = some ⟨oc16, od16, .func (PySem.W.fnOf "_law_next" "_law_next" (defArgs sNext) (defBody sNext) (defScope sNext) .none kV16 dc16 pm16 an16 cd16 ct16), sl16⟩)
    (c16 : PySem.W.codeIn K cd16 "_law_next" = true)
    (k16 : PySem.W.keepIn K (.ref f16) = true)
    (a17 : PySem.W.nsIn K mainGlobals "_law_drawn" = some (some (.ref f17)))
    (l17 : K.lookup f17 = some ⟨oc17, od17, .func (PySem.W.fnOf "_law_drawn" "_law_drawn" (defArgs sDrawn) (defBody sDrawn) (defScope sDrawn) .none kV17 dc17 pm17 an17 cd17 ct17), sl17⟩)
    (c17 : PySem.W.codeIn K cd17 "_law_drawn" = true)
    (k17 : PySem.W.keepIn K (.ref f17) = true)
    (a18 : PySem.W.nsIn K mainGlobals "_law_two_deeds" = some (some (.ref f18)))
    (l18 : K.lookup f18 = some ⟨oc18, od18, .func (PySem.W.fnOf "_law_two_deeds" "_law_two_deeds" (defArgs sTwo) (defBody sTwo) (defScope sTwo) .none kV18 dc18 pm18 an18 cd18 ct18), sl18⟩)
    (c18 : PySem.W.codeIn K cd18 "_law_two_deeds" = true)
    (k18 : PySem.W.keepIn K (.ref f18) = true)
    (a19 : PySem.W.nsIn K mainGlobals "_law_row" = some (some (.ref f19)))
    (l19 : K.lookup f19 = some ⟨oc19, od19, .func (PySem.W.fnOf "_law_row" "_law_row" (defArgs sRow) (defBody sRow) (defScope sRow) .none kV19 dc19 pm19 an19 cd19 ct19), sl19⟩)
    (c19 : PySem.W.codeIn K cd19 "_law_row" = true)
    (k19 : PySem.W.keepIn K (.ref f19) = true)
    (a20 : PySem.W.nsIn K mainGlobals "_law_due" = some (some (.ref f20)))
    (l20 : K.lookup f20 = some ⟨oc20, od20, .func (PySem.W.fnOf "_law_due" "_law_due" (defArgs sDue) (defBody sDue) (defScope sDue) .none kV20 dc20 pm20 an20 cd20 ct20), sl20⟩)
    (c20 : PySem.W.codeIn K cd20 "_law_due" = true)
    (k20 : PySem.W.keepIn K (.ref f20) = true)
    (a21 : PySem.W.nsIn K mainGlobals "_law_some_row" = some (some (.ref f21)))
    (l21 : K.lookup f21 = some ⟨oc21, od21, .func (PySem.W.fnOf "_law_some_row" "_law_some_row" (defArgs sSomeRow) (defBody sSomeRow) (defScope sSomeRow) .none kV21 dc21 pm21 an21 cd21 ct21), sl21⟩)
    (c21 : PySem.W.codeIn K cd21 "_law_some_row" = true)
    (k21 : PySem.W.keepIn K (.ref f21) = true)
    (a22 : PySem.W.nsIn K mainGlobals "law" = some (some (.ref f22)))
    (l22 : K.lookup f22 = some ⟨oc22, od22, .func (PySem.W.fnOf "law" "law" (defArgs sLaw) (defBody sLaw) (defScope sLaw) .none kV22 dc22 pm22 an22 cd22 ct22), sl22⟩)
    (c22 : PySem.W.codeIn K cd22 "law" = true)
    (k22 : PySem.W.keepIn K (.ref f22) = true)
    (aC : PySem.W.nsIn K mainGlobals "Deeds" = some (some (.ref C)))
    (qm0 : PySem.W.findIn K (.ref C) "has" = some (some (.ref fm0)))
    (lm0 : K.lookup fm0 = some ⟨ocm0, odm0, .func (PySem.W.fnOf "has" "Deeds.has" (defArgs sHas) (defBody sHas) (defScope sHas) .none kVm0 dcm0 pmm0 anm0 cdm0 ctm0), slm0⟩)
    (cm0 : PySem.W.codeIn K cdm0 "Deeds.has" = true)
    (km0 : PySem.W.keepIn K (.ref fm0) = true)
    (nm0 : PySem.W.isFn K (.ref fm0) = true)
    (qm1 : PySem.W.findIn K (.ref C) "require" = some (some (.ref fm1)))
    (lm1 : K.lookup fm1 = some ⟨ocm1, odm1, .func (PySem.W.fnOf "require" "Deeds.require" (defArgs sRequire) (defBody sRequire) (defScope sRequire) .none kVm1 dcm1 pmm1 anm1 cdm1 ctm1), slm1⟩)
    (cm1 : PySem.W.codeIn K cdm1 "Deeds.require" = true)
    (km1 : PySem.W.keepIn K (.ref fm1) = true)
    (nm1 : PySem.W.isFn K (.ref fm1) = true)
    (aM : PySem.W.nsIn K mainGlobals "Machine" = some (some (.ref CM)))
    (qM0 : PySem.W.findIn K (.ref CM) "require_room" = some (some (.ref fM0)))
    (lM0 : K.lookup fM0 = some ⟨ocM0, odM0, .func (PySem.W.fnOf "require_room" "Machine.require_room" (defArgs mReqRoom) (defBody mReqRoom) (defScope mReqRoom) .none kVM0 dcM0 pmM0 anM0 cdM0 ctM0), slM0⟩)
    (cM0 : PySem.W.codeIn K cdM0 "Machine.require_room" = true)
    (kM0 : PySem.W.keepIn K (.ref fM0) = true)
    (nM0 : PySem.W.isFn K (.ref fM0) = true)
    (qM1 : PySem.W.findIn K (.ref CM) "is_end" = some (some (.ref fM1)))
    (lM1 : K.lookup fM1 = some ⟨ocM1, odM1, .func (PySem.W.fnOf "is_end" "Machine.is_end" (defArgs mIsEnd) (defBody mIsEnd) (defScope mIsEnd) .none kVM1 dcM1 pmM1 anM1 cdM1 ctM1), slM1⟩)
    (cM1 : PySem.W.codeIn K cdM1 "Machine.is_end" = true)
    (kM1 : PySem.W.keepIn K (.ref fM1) = true)
    (nM1 : PySem.W.isFn K (.ref fM1) = true)
    (qM2 : PySem.W.findIn K (.ref CM) "goes" = some (some (.ref fM2)))
    (lM2 : K.lookup fM2 = some ⟨ocM2, odM2, .func (PySem.W.fnOf "goes" "Machine.goes" (defArgs mGoes) (defBody mGoes) (defScope mGoes) .none kVM2 dcM2 pmM2 anM2 cdM2 ctM2), slM2⟩)
    (cM2 : PySem.W.codeIn K cdM2 "Machine.goes" = true)
    (kM2 : PySem.W.keepIn K (.ref fM2) = true)
    (nM2 : PySem.W.isFn K (.ref fM2) = true)
    (qM3 : PySem.W.findIn K (.ref CM) "behind" = some (some (.ref fM3)))
    (lM3 : K.lookup fM3 = some ⟨ocM3, odM3, .func (PySem.W.fnOf "behind" "Machine.behind" (defArgs mBehind) (defBody mBehind) (defScope mBehind) .none kVM3 dcM3 pmM3 anM3 cdM3 ctM3), slM3⟩)
    (cM3 : PySem.W.codeIn K cdM3 "Machine.behind" = true)
    (kM3 : PySem.W.keepIn K (.ref fM3) = true)
    (nM3 : PySem.W.isFn K (.ref fM3) = true)
    (qMI : PySem.W.findIn K (.ref CM) "__init__" = some (some (.ref fMI)))
    (lMI : K.lookup fMI = some ⟨ocMI, odMI, .func (PySem.W.fnOf "__init__" "Machine.__init__" (defArgs mInit) (defBody mInit) (defScope mInit) (.ref Te) kVMI dcMI pmMI anMI cdMI ctMI), slMI⟩)
    (cMI : PySem.W.codeIn K cdMI "Machine.__init__" = true)
    (kMI : PySem.W.keepIn K (.ref fMI) = true)
    (nMI : PySem.W.isFn K (.ref fMI) = true)
    (lE : K.lookup Te = some ⟨ocE, odE, .seq #[.none] nE, slE⟩)
    (mkM : PySem.W.makesIn K CM = true)
    (kpM : PySem.W.keepIn K (.ref CM) = true)
    (pgM : PySem.W.plainGet K CM Str.empty = true)
    (hdM : PySem.W.hasDictIn K CM = true)
    (poM : PySem.W.plainOver K CM = true)
    (saM : PySem.W.findIn K (.ref CM) "__setattr__" = some (some (.builtin "object.__setattr__")))
    (nM0_ : PySem.W.findIn K (.ref CM) "leads" = some none)
    (nM1_ : PySem.W.findIn K (.ref CM) "deeds_made_of" = some none)
    (nM2_ : PySem.W.findIn K (.ref CM) "first_room" = some none)
    (nM3_ : PySem.W.findIn K (.ref CM) "end_marks" = some none)
    (nM4_ : PySem.W.findIn K (.ref CM) "known_marks" = some none)
    (qI : PySem.W.findIn K (.ref C) "__init__" = some (some (.ref fI)))
    (lI : K.lookup fI = some ⟨ocI, odI, .func (PySem.W.fnOf "__init__" "Deeds.__init__" (defArgs sInit) (defBody sInit) (defScope sInit) (.ref Td) kVI dcI pmI anI cdI ctI), slI⟩)
    (cI : PySem.W.codeIn K cdI "Deeds.__init__" = true)
    (kI : PySem.W.keepIn K (.ref fI) = true)
    (nI : PySem.W.isFn K (.ref fI) = true)
    (lT : K.lookup Td = some ⟨ocT, odT, .seq #[.none] nT, slT⟩)
    (mkC : PySem.W.makesIn K C = true)
    (kpC : PySem.W.keepIn K (.ref C) = true)
    (pgC : PySem.W.plainGet K C Str.empty = true)
    (hdC : PySem.W.hasDictIn K C = true)
    (poC : PySem.W.plainOver K C = true)
    (saC : PySem.W.findIn K (.ref C) "__setattr__" = some (some (.builtin "object.__setattr__")))
    (nC0_ : PySem.W.findIn K (.ref C) "weights" = some none)
    (nC1_ : PySem.W.findIn K (.ref C) "free_marks" = some none)
    (aR0 : PySem.W.nsIn K mainGlobals "Never" = some (some (.ref R0)))
    (qi0 : PySem.W.findIn K (.ref R0) "__init__" = some (some (.ref fi0)))
    (li0 : K.lookup fi0 = some ⟨oci0, odi0, .func (PySem.W.fnOf "__init__" "Never.__init__" (defArgs nInit) (defBody nInit) (defScope nInit) .none kVi0 dci0 pmi0 ani0 cdi0 cti0), sli0⟩)
    (ci0 : PySem.W.codeIn K cdi0 "Never.__init__" = true)
    (ki0 : PySem.W.keepIn K (.ref fi0) = true)
    (ni0 : PySem.W.isFn K (.ref fi0) = true)
    (qg0 : PySem.W.findIn K (.ref R0) "machine" = some (some (.ref fg0)))
    (lg0 : K.lookup fg0 = some ⟨ocg0, odg0, .func (PySem.W.fnOf "machine" "Never.machine" (defArgs nMach) (defBody nMach) (defScope nMach) .none kVg0 dcg0 pmg0 ang0 cdg0 ctg0), slg0⟩)
    (cg0 : PySem.W.codeIn K cdg0 "Never.machine" = true)
    (kg0 : PySem.W.keepIn K (.ref fg0) = true)
    (ng0 : PySem.W.isFn K (.ref fg0) = true)
    (qb0 : PySem.W.findIn K (.ref R0) "about" = some (some (.ref fb0)))
    (lb0 : K.lookup fb0 = some ⟨ocb0, odb0, .func (PySem.W.fnOf "about" "Never.about" (defArgs nAbout) (defBody nAbout) (defScope nAbout) .none kVb0 dcb0 pmb0 anb0 cdb0 ctb0), slb0⟩)
    (cb0 : PySem.W.codeIn K cdb0 "Never.about" = true)
    (kb0 : PySem.W.keepIn K (.ref fb0) = true)
    (nb0 : PySem.W.isFn K (.ref fb0) = true)
    (mkR0 : PySem.W.makesIn K R0 = true)
    (kpR0 : PySem.W.keepIn K (.ref R0) = true)
    (pgR0 : PySem.W.plainGet K R0 Str.empty = true)
    (hdR0 : PySem.W.hasDictIn K R0 = true)
    (poR0 : PySem.W.plainOver K R0 = true)
    (saR0 : PySem.W.findIn K (.ref R0) "__setattr__" = some (some (.builtin "object.__setattr__")))
    (nR00_ : PySem.W.findIn K (.ref R0) "deed" = some none)
    (nR01_ : PySem.W.findIn K (.ref R0) "many" = some none)
    (nR02_ : PySem.W.findIn K (.ref R0) "one" = some none)
    (nR03_ : PySem.W.findIn K (.ref R0) "other" = some none)
    (aR1 : PySem.W.nsIn K mainGlobals "Most" = some (some (.ref R1)))
    (qi1 : PySem.W.findIn K (.ref R1) "__init__" = some (some (.ref fi1)))
    (li1 : K.lookup fi1 = some ⟨oci1, odi1, .func (PySem.W.fnOf "__init__" "Most.__init__" (defArgs oInit) (defBody oInit) (defScope oInit) .none kVi1 dci1 pmi1 ani1 cdi1 cti1), sli1⟩)
    (ci1 : PySem.W.codeIn K cdi1 "Most.__init__" = true)
    (ki1 : PySem.W.keepIn K (.ref fi1) = true)
    (ni1 : PySem.W.isFn K (.ref fi1) = true)
    (qg1 : PySem.W.findIn K (.ref R1) "machine" = some (some (.ref fg1)))
    (lg1 : K.lookup fg1 = some ⟨ocg1, odg1, .func (PySem.W.fnOf "machine" "Most.machine" (defArgs oMach) (defBody oMach) (defScope oMach) .none kVg1 dcg1 pmg1 ang1 cdg1 ctg1), slg1⟩)
    (cg1 : PySem.W.codeIn K cdg1 "Most.machine" = true)
    (kg1 : PySem.W.keepIn K (.ref fg1) = true)
    (ng1 : PySem.W.isFn K (.ref fg1) = true)
    (qb1 : PySem.W.findIn K (.ref R1) "about" = some (some (.ref fb1)))
    (lb1 : K.lookup fb1 = some ⟨ocb1, odb1, .func (PySem.W.fnOf "about" "Most.about" (defArgs oAbout) (defBody oAbout) (defScope oAbout) .none kVb1 dcb1 pmb1 anb1 cdb1 ctb1), slb1⟩)
    (cb1 : PySem.W.codeIn K cdb1 "Most.about" = true)
    (kb1 : PySem.W.keepIn K (.ref fb1) = true)
    (nb1 : PySem.W.isFn K (.ref fb1) = true)
    (mkR1 : PySem.W.makesIn K R1 = true)
    (kpR1 : PySem.W.keepIn K (.ref R1) = true)
    (pgR1 : PySem.W.plainGet K R1 Str.empty = true)
    (hdR1 : PySem.W.hasDictIn K R1 = true)
    (poR1 : PySem.W.plainOver K R1 = true)
    (saR1 : PySem.W.findIn K (.ref R1) "__setattr__" = some (some (.builtin "object.__setattr__")))
    (nR10_ : PySem.W.findIn K (.ref R1) "deed" = some none)
    (nR11_ : PySem.W.findIn K (.ref R1) "many" = some none)
    (nR12_ : PySem.W.findIn K (.ref R1) "one" = some none)
    (nR13_ : PySem.W.findIn K (.ref R1) "other" = some none)
    (aR2 : PySem.W.nsIn K mainGlobals "Ahead" = some (some (.ref R2)))
    (qi2 : PySem.W.findIn K (.ref R2) "__init__" = some (some (.ref fi2)))
    (li2 : K.lookup fi2 = some ⟨oci2, odi2, .func (PySem.W.fnOf "__init__" "Ahead.__init__" (defArgs aInit) (defBody aInit) (defScope aInit) .none kVi2 dci2 pmi2 ani2 cdi2 cti2), sli2⟩)
    (ci2 : PySem.W.codeIn K cdi2 "Ahead.__init__" = true)
    (ki2 : PySem.W.keepIn K (.ref fi2) = true)
    (ni2 : PySem.W.isFn K (.ref fi2) = true)
    (qg2 : PySem.W.findIn K (.ref R2) "machine" = some (some (.ref fg2)))
    (lg2 : K.lookup fg2 = some ⟨ocg2, odg2, .func (PySem.W.fnOf "machine" "Ahead.machine" (defArgs aMach) (defBody aMach) (defScope aMach) .none kVg2 dcg2 pmg2 ang2 cdg2 ctg2), slg2⟩)
    (cg2 : PySem.W.codeIn K cdg2 "Ahead.machine" = true)
    (kg2 : PySem.W.keepIn K (.ref fg2) = true)
    (ng2 : PySem.W.isFn K (.ref fg2) = true)
    (mkR2 : PySem.W.makesIn K R2 = true)
    (kpR2 : PySem.W.keepIn K (.ref R2) = true)
    (pgR2 : PySem.W.plainGet K R2 Str.empty = true)
    (hdR2 : PySem.W.hasDictIn K R2 = true)
    (poR2 : PySem.W.plainOver K R2 = true)
    (saR2 : PySem.W.findIn K (.ref R2) "__setattr__" = some (some (.builtin "object.__setattr__")))
    (nR20_ : PySem.W.findIn K (.ref R2) "deed" = some none)
    (nR21_ : PySem.W.findIn K (.ref R2) "many" = some none)
    (nR22_ : PySem.W.findIn K (.ref R2) "one" = some none)
    (nR23_ : PySem.W.findIn K (.ref R2) "other" = some none)
    (aR3 : PySem.W.nsIn K mainGlobals "Turns" = some (some (.ref R3)))
    (qi3 : PySem.W.findIn K (.ref R3) "__init__" = some (some (.ref fi3)))
    (li3 : K.lookup fi3 = some ⟨oci3, odi3, .func (PySem.W.fnOf "__init__" "Turns.__init__" (defArgs uInit) (defBody uInit) (defScope uInit) .none kVi3 dci3 pmi3 ani3 cdi3 cti3), sli3⟩)
    (ci3 : PySem.W.codeIn K cdi3 "Turns.__init__" = true)
    (ki3 : PySem.W.keepIn K (.ref fi3) = true)
    (ni3 : PySem.W.isFn K (.ref fi3) = true)
    (qg3 : PySem.W.findIn K (.ref R3) "machine" = some (some (.ref fg3)))
    (lg3 : K.lookup fg3 = some ⟨ocg3, odg3, .func (PySem.W.fnOf "machine" "Turns.machine" (defArgs uMach) (defBody uMach) (defScope uMach) .none kVg3 dcg3 pmg3 ang3 cdg3 ctg3), slg3⟩)
    (cg3 : PySem.W.codeIn K cdg3 "Turns.machine" = true)
    (kg3 : PySem.W.keepIn K (.ref fg3) = true)
    (ng3 : PySem.W.isFn K (.ref fg3) = true)
    (mkR3 : PySem.W.makesIn K R3 = true)
    (kpR3 : PySem.W.keepIn K (.ref R3) = true)
    (pgR3 : PySem.W.plainGet K R3 Str.empty = true)
    (hdR3 : PySem.W.hasDictIn K R3 = true)
    (poR3 : PySem.W.plainOver K R3 = true)
    (saR3 : PySem.W.findIn K (.ref R3) "__setattr__" = some (some (.builtin "object.__setattr__")))
    (nR30_ : PySem.W.findIn K (.ref R3) "deed" = some none)
    (nR31_ : PySem.W.findIn K (.ref R3) "many" = some none)
    (nR32_ : PySem.W.findIn K (.ref R3) "one" = some none)
    (nR33_ : PySem.W.findIn K (.ref R3) "other" = some none)
    (aR4 : PySem.W.nsIn K mainGlobals "Hold" = some (some (.ref R4)))
    (qi4 : PySem.W.findIn K (.ref R4) "__init__" = some (some (.ref fi4)))
    (li4 : K.lookup fi4 = some ⟨oci4, odi4, .func (PySem.W.fnOf "__init__" "Hold.__init__" (defArgs hInit) (defBody hInit) (defScope hInit) .none kVi4 dci4 pmi4 ani4 cdi4 cti4), sli4⟩)
    (ci4 : PySem.W.codeIn K cdi4 "Hold.__init__" = true)
    (ki4 : PySem.W.keepIn K (.ref fi4) = true)
    (ni4 : PySem.W.isFn K (.ref fi4) = true)
    (qg4 : PySem.W.findIn K (.ref R4) "machine" = some (some (.ref fg4)))
    (lg4 : K.lookup fg4 = some ⟨ocg4, odg4, .func (PySem.W.fnOf "machine" "Hold.machine" (defArgs hMach) (defBody hMach) (defScope hMach) .none kVg4 dcg4 pmg4 ang4 cdg4 ctg4), slg4⟩)
    (cg4 : PySem.W.codeIn K cdg4 "Hold.machine" = true)
    (kg4 : PySem.W.keepIn K (.ref fg4) = true)
    (ng4 : PySem.W.isFn K (.ref fg4) = true)
    (mkR4 : PySem.W.makesIn K R4 = true)
    (kpR4 : PySem.W.keepIn K (.ref R4) = true)
    (pgR4 : PySem.W.plainGet K R4 Str.empty = true)
    (hdR4 : PySem.W.hasDictIn K R4 = true)
    (poR4 : PySem.W.plainOver K R4 = true)
    (saR4 : PySem.W.findIn K (.ref R4) "__setattr__" = some (some (.builtin "object.__setattr__")))
    (nR40_ : PySem.W.findIn K (.ref R4) "deed" = some none)
    (nR41_ : PySem.W.findIn K (.ref R4) "many" = some none)
    (nR42_ : PySem.W.findIn K (.ref R4) "one" = some none)
    (nR43_ : PySem.W.findIn K (.ref R4) "other" = some none)
    (aR5 : PySem.W.nsIn K mainGlobals "Answer" = some (some (.ref R5)))
    (qi5 : PySem.W.findIn K (.ref R5) "__init__" = some (some (.ref fi5)))
    (li5 : K.lookup fi5 = some ⟨oci5, odi5, .func (PySem.W.fnOf "__init__" "Answer.__init__" (defArgs wInit) (defBody wInit) (defScope wInit) .none kVi5 dci5 pmi5 ani5 cdi5 cti5), sli5⟩)
    (ci5 : PySem.W.codeIn K cdi5 "Answer.__init__" = true)
    (ki5 : PySem.W.keepIn K (.ref fi5) = true)
    (ni5 : PySem.W.isFn K (.ref fi5) = true)
    (qg5 : PySem.W.findIn K (.ref R5) "machine" = some (some (.ref fg5)))
    (lg5 : K.lookup fg5 = some ⟨ocg5, odg5, .func (PySem.W.fnOf "machine" "Answer.machine" (defArgs wMach) (defBody wMach) (defScope wMach) .none kVg5 dcg5 pmg5 ang5 cdg5 ctg5), slg5⟩)
    (cg5 : PySem.W.codeIn K cdg5 "Answer.machine" = true)
    (kg5 : PySem.W.keepIn K (.ref fg5) = true)
    (ng5 : PySem.W.isFn K (.ref fg5) = true)
    (mkR5 : PySem.W.makesIn K R5 = true)
    (kpR5 : PySem.W.keepIn K (.ref R5) = true)
    (pgR5 : PySem.W.plainGet K R5 Str.empty = true)
    (hdR5 : PySem.W.hasDictIn K R5 = true)
    (poR5 : PySem.W.plainOver K R5 = true)
    (saR5 : PySem.W.findIn K (.ref R5) "__setattr__" = some (some (.builtin "object.__setattr__")))
    (nR50_ : PySem.W.findIn K (.ref R5) "deed" = some none)
    (nR51_ : PySem.W.findIn K (.ref R5) "many" = some none)
    (nR52_ : PySem.W.findIn K (.ref R5) "one" = some none)
    (nR53_ : PySem.W.findIn K (.ref R5) "other" = some none)
    (aT : PySem.W.nsIn K mainGlobals "OfTwo" = some (some (.ref CT)))
    (qZ : PySem.W.findIn K (.ref CT) "__init__" = some (some (.ref fZ)))
    (lZ : K.lookup fZ = some ⟨ocZ, odZ, .func (PySem.W.fnOf "__init__" "OfTwo.__init__" (defArgs tInit) (defBody tInit) (defScope tInit) .none kVZ dcZ pmZ anZ cdZ ctZ), slZ⟩)
    (cZ : PySem.W.codeIn K cdZ "OfTwo.__init__" = true)
    (kZ : PySem.W.keepIn K (.ref fZ) = true)
    (nZ : PySem.W.isFn K (.ref fZ) = true)
    (sT : PySem.W.specialIn K (.ref CT) "__getattribute__" = some (some (.builtin "type.__getattribute__")))
    (rT : PySem.W.readsIn K CT (.type "type") = true)
    (fT_ : PySem.W.findCls K (.ref CT) (.type "type") "__init__" = some (.val (.ref fZ)))
    (hT : PySem.W.handedIn (.ref fZ) = true)
    (e0 : PySem.W.nsIn K mainGlobals "NoName" = some (some (.ref d0)))
    (e1 : PySem.W.nsIn K mainGlobals "NoDeed" = some (some (.ref d1)))
    (e3 : PySem.W.nsIn K mainGlobals "TwiceTold" = some (some (.ref d3)))
    (e4 : PySem.W.nsIn K mainGlobals "TooMany" = some (some (.ref d4)))
    (xa0 : PySem.W.excIn K d0 veMro "ValueError.__new__" = true)
    (xa1 : PySem.W.excIn K d1 veMro "ValueError.__new__" = true)
    (xa3 : PySem.W.excIn K d3 veMro "ValueError.__new__" = true)
    (xa4 : PySem.W.excIn K d4 veMro "ValueError.__new__" = true)
    (cst0 : PySem.W.nsIn K mainGlobals "LETTERS" = some (some (.str letters t0)))
    (cst1 : PySem.W.nsIn K mainGlobals "FIGURES" = some (some (.str figures t1)))
    (cst2 : PySem.W.nsIn K mainGlobals "MOST_SIGNS" = some (some (.int 8 t2)))
    (cst3 : PySem.W.nsIn K mainGlobals "MOST_DEEDS" = some (some (.int 12 t3)))
    (cst4 : PySem.W.nsIn K mainGlobals "MOST_ROOMS" = some (some (.int 60 t4)))
    (cst5 : PySem.W.nsIn K mainGlobals "MOST_TIMES" = some (some (.int 6 t5)))
    (z0 : PySem.W.nsIn K mainGlobals "isinstance" = some none)
    (z1 : PySem.W.nsIn K mainGlobals "str" = some none)
    (z2 : PySem.W.nsIn K mainGlobals "bool" = some none)
    (z3 : PySem.W.nsIn K mainGlobals "int" = some none)
    (z4 : PySem.W.nsIn K mainGlobals "len" = some none)
    (z5 : PySem.W.nsIn K mainGlobals "all" = some none)
    (z6 : PySem.W.nsIn K mainGlobals "range" = some none)
    (z7 : PySem.W.nsIn K mainGlobals "sorted" = some none)
    (z8 : PySem.W.nsIn K mainGlobals "list" = some none)
    (z9 : PySem.W.nsIn K mainGlobals "enumerate" = some none) :
    ∃ fd : FuncData, (∀ (s : Shared) (v : Value), BindsTo s fd ⟨[v], []⟩ [("_law_script", v)]) ∧ ∀ base : Heap, K.In base → base.Ns mainGlobals mg → BMain mg base → FnOk l.prog w K mg base CX0 9 fa fd ["_law_script"] (spLaw K) := by
  have e := hfa.symm.trans (PySem.W.mg_of X G a22)
  cases e
  have T : Txt K mg := ⟨⟨_, PySem.W.mg_of X G cst0⟩, ⟨_, PySem.W.mg_of X G cst1⟩, ⟨_, PySem.W.mg_of X G cst2⟩, ⟨_, PySem.W.mg_of X G cst3⟩, PySem.W.mg_none_of X G z0, PySem.W.mg_none_of X G z1, PySem.W.mg_none_of X G z2, PySem.W.mg_none_of X G z3, PySem.W.mg_none_of X G z4, PySem.W.mg_none_of X G z5, PySem.W.mg_none_of X G z6, PySem.W.mg_none_of X G z7, PySem.W.mg_none_of X G z8, PySem.W.mg_none_of X G z9⟩
  have F1 := fun_mk (st := sMixed) l1 c1 k1
  have b1 := F1.binds (ps := ["_law_cell", "_law_k"]) fun _ _ _ _ _ _ => len2 (fun _ _ => rfl)
  have F2 := fun_mk (st := sCell) l2 c2 k2
  have b2 := F2.binds (ps := ["_law_script", "_law_k"]) fun _ _ _ _ _ _ => len2 (fun _ _ => rfl)
  have F3 := fun_mk (st := sName) l3 c3 k3
  have b3 := F3.binds (ps := ["thing"]) fun _ _ _ _ _ _ => len1 (fun _ => rfl)
  have F4 := fun_mk (st := sRefuse) l4 c4 k4
  have b4 := F4.binds (ps := ["names"]) fun _ _ _ _ _ _ => len1 (fun _ => rfl)
  have F5 := fun_mk (st := sWeights) l5 c5 k5
  have b5 := F5.binds (ps := ["names"]) fun _ _ _ _ _ _ => len1 (fun _ => rfl)
  have F6 := fun_mk (st := sMarks) l6 c6 k6
  have b6 := F6.binds (ps := ["names"]) fun _ _ _ _ _ _ => len1 (fun _ => rfl)
  have F7 := fun_mk (st := sNamesBy) l7 c7 k7
  have b7 := F7.binds (ps := ["_law_cell", "_law_many"]) fun _ _ _ _ _ _ => len2 (fun _ _ => rfl)
  have F8 := fun_mk (st := sDeedsBy) l8 c8 k8
  have b8 := F8.binds (ps := ["_law_cell"]) fun _ _ _ _ _ _ => len1 (fun _ => rfl)
  have F9 := fun_mk (st := sNamed) l9 c9 k9
  have b9 := F9.binds (ps := ["begin", "ends", "doors"]) fun _ _ _ _ _ _ => len3 (fun _ _ _ => rfl)
  have F10 := fun_mk (st := sRefRooms) l10 c10 k10
  have b10 := F10.binds (ps := ["rooms"]) fun _ _ _ _ _ _ => len1 (fun _ => rfl)
  have F11 := fun_mk (st := sLeads) l11 c11 k11
  have b11 := F11.binds (ps := ["rooms", "doors"]) fun _ _ _ _ _ _ => len2 (fun _ _ => rfl)
  have F12 := fun_mk (st := sTimes) l12 c12 k12
  have b12 := F12.binds (ps := ["thing"]) fun _ _ _ _ _ _ => len1 (fun _ => rfl)
  have F13 := fun_mk (st := sKeeps) l13 c13 k13
  have b13 := F13.binds (ps := ["rule", "deeds", "row"]) fun _ _ _ _ _ _ => len3 (fun _ _ _ => rfl)
  have F14 := fun_mk (st := sRuleOf) l14 c14 k14
  have b14 := F14.binds (ps := ["_law_row_here"]) fun _ _ _ _ _ _ => len1 (fun _ => rfl)
  have F15 := fun_mk (st := sAboutL) l15 c15 k15
  have b15 := F15.binds (ps := ["_law_rule"]) fun _ _ _ _ _ _ => len1 (fun _ => rfl)
  have F16 := fun_mk (st := sNext) l16 c16 k16
  have b16 := F16.binds (ps := ["_law_rule", "_law_state", "_law_deed"]) fun _ _ _ _ _ _ => len3 (fun _ _ _ => rfl)
  have F17 := fun_mk (st := sDrawn) l17 c17 k17
  have b17 := F17.binds (ps := ["_law_cell", "_law_names"]) fun _ _ _ _ _ _ => len2 (fun _ _ => rfl)
  have F18 := fun_mk (st := sTwo) l18 c18 k18
  have b18 := F18.binds (ps := ["_law_cell"]) fun _ _ _ _ _ _ => len1 (fun _ => rfl)
  have F19 := fun_mk (st := sRow) l19 c19 k19
  have b19 := F19.binds (ps := ["_law_cell", "_law_names", "_law_most"]) fun _ _ _ _ _ _ => len3 (fun _ _ _ => rfl)
  have F20 := fun_mk (st := sDue) l20 c20 k20
  have b20 := F20.binds (ps := ["_law_words", "_law_row_here"]) fun _ _ _ _ _ _ => len2 (fun _ _ => rfl)
  have F21 := fun_mk (st := sSomeRow) l21 c21 k21
  have b21 := F21.binds (ps := ["_law_cell", "_law_names", "_law_words"]) fun _ _ _ _ _ _ => len3 (fun _ _ _ => rfl)
  have Fm0 := fun_mk (st := sHas) lm0 cm0 km0
  have bm0 := Fm0.binds (ps := ["self", "thing"]) fun _ _ _ _ _ _ => len2 (fun _ _ => rfl)
  have Mm0 : Meth K C "has" fm0 := ⟨qm0, nm0, km0⟩
  have Fm1 := fun_mk (st := sRequire) lm1 cm1 km1
  have bm1 := Fm1.binds (ps := ["self", "row"]) fun _ _ _ _ _ _ => len2 (fun _ _ => rfl)
  have Mm1 : Meth K C "require" fm1 := ⟨qm1, nm1, km1⟩
  have FM0 := fun_mk (st := mReqRoom) lM0 cM0 kM0
  have bM0 := FM0.binds (ps := ["self", "room"]) fun _ _ _ _ _ _ => len2 (fun _ _ => rfl)
  have MM0 : Meth K CM "require_room" fM0 := ⟨qM0, nM0, kM0⟩
  have FM1 := fun_mk (st := mIsEnd) lM1 cM1 kM1
  have bM1 := FM1.binds (ps := ["self", "room"]) fun _ _ _ _ _ _ => len2 (fun _ _ => rfl)
  have MM1 : Meth K CM "is_end" fM1 := ⟨qM1, nM1, kM1⟩
  have FM2 := fun_mk (st := mGoes) lM2 cM2 kM2
  have bM2 := FM2.binds (ps := ["self", "room", "deed"]) fun _ _ _ _ _ _ => len3 (fun _ _ _ => rfl)
  have MM2 : Meth K CM "goes" fM2 := ⟨qM2, nM2, kM2⟩
  have FM3 := fun_mk (st := mBehind) lM3 cM3 kM3
  have bM3 := FM3.binds (ps := ["self", "row"]) fun _ _ _ _ _ _ => len2 (fun _ _ => rfl)
  have MM3 : Meth K CM "behind" fM3 := ⟨qM3, nM3, kM3⟩
  have Fi0 := fun_mk (st := nInit) li0 ci0 ki0
  have bi0 := Fi0.binds (ps := ["self", "deed"]) fun _ _ _ _ _ _ => len2 (fun _ _ => rfl)
  have Fg0 := fun_mk (st := nMach) lg0 cg0 kg0
  have bg0 := Fg0.binds (ps := ["self", "deeds"]) fun _ _ _ _ _ _ => len2 (fun _ _ => rfl)
  have Mg0 : Meth K R0 "machine" fg0 := ⟨qg0, ng0, kg0⟩
  have Mi0 : Mk K R0 fi0 := ⟨mkR0, qi0, ni0, kpR0⟩
  have RC0 : RCls K R0 := ⟨⟨pgR0, hdR0, poR0, saR0⟩, nR00_, nR01_, nR02_, nR03_⟩
  have Fb0 := fun_mk (st := nAbout) lb0 cb0 kb0
  have bb0 := Fb0.binds (ps := ["self"]) fun _ _ _ _ _ _ => len1 (fun _ => rfl)
  have Mb0 : Meth K R0 "about" fb0 := ⟨qb0, nb0, kb0⟩
  have Fi1 := fun_mk (st := oInit) li1 ci1 ki1
  have bi1 := Fi1.binds (ps := ["self", "deed", "many"]) fun _ _ _ _ _ _ => len3 (fun _ _ _ => rfl)
  have Fg1 := fun_mk (st := oMach) lg1 cg1 kg1
  have bg1 := Fg1.binds (ps := ["self", "deeds"]) fun _ _ _ _ _ _ => len2 (fun _ _ => rfl)
  have Mg1 : Meth K R1 "machine" fg1 := ⟨qg1, ng1, kg1⟩
  have Mi1 : Mk K R1 fi1 := ⟨mkR1, qi1, ni1, kpR1⟩
  have RC1 : RCls K R1 := ⟨⟨pgR1, hdR1, poR1, saR1⟩, nR10_, nR11_, nR12_, nR13_⟩
  have Fb1 := fun_mk (st := oAbout) lb1 cb1 kb1
  have bb1 := Fb1.binds (ps := ["self"]) fun _ _ _ _ _ _ => len1 (fun _ => rfl)
  have Mb1 : Meth K R1 "about" fb1 := ⟨qb1, nb1, kb1⟩
  have Fi2 := fun_mk (st := aInit) li2 ci2 ki2
  have bi2 := Fi2.binds (ps := ["self", "first", "later"]) fun _ _ _ _ _ _ => len3 (fun _ _ _ => rfl)
  have Fg2 := fun_mk (st := aMach) lg2 cg2 kg2
  have bg2 := Fg2.binds (ps := ["self", "deeds"]) fun _ _ _ _ _ _ => len2 (fun _ _ => rfl)
  have Mg2 : Meth K R2 "machine" fg2 := ⟨qg2, ng2, kg2⟩
  have Mi2 : Mk K R2 fi2 := ⟨mkR2, qi2, ni2, kpR2⟩
  have RC2 : RCls K R2 := ⟨⟨pgR2, hdR2, poR2, saR2⟩, nR20_, nR21_, nR22_, nR23_⟩
  have Fi3 := fun_mk (st := uInit) li3 ci3 ki3
  have bi3 := Fi3.binds (ps := ["self", "one", "other"]) fun _ _ _ _ _ _ => len3 (fun _ _ _ => rfl)
  have Fg3 := fun_mk (st := uMach) lg3 cg3 kg3
  have bg3 := Fg3.binds (ps := ["self", "deeds"]) fun _ _ _ _ _ _ => len2 (fun _ _ => rfl)
  have Mg3 : Meth K R3 "machine" fg3 := ⟨qg3, ng3, kg3⟩
  have Mi3 : Mk K R3 fi3 := ⟨mkR3, qi3, ni3, kpR3⟩
  have RC3 : RCls K R3 := ⟨⟨pgR3, hdR3, poR3, saR3⟩, nR30_, nR31_, nR32_, nR33_⟩
  have Fi4 := fun_mk (st := hInit) li4 ci4 ki4
  have bi4 := Fi4.binds (ps := ["self", "deed", "other"]) fun _ _ _ _ _ _ => len3 (fun _ _ _ => rfl)
  have Fg4 := fun_mk (st := hMach) lg4 cg4 kg4
  have bg4 := Fg4.binds (ps := ["self", "deeds"]) fun _ _ _ _ _ _ => len2 (fun _ _ => rfl)
  have Mg4 : Meth K R4 "machine" fg4 := ⟨qg4, ng4, kg4⟩
  have Mi4 : Mk K R4 fi4 := ⟨mkR4, qi4, ni4, kpR4⟩
  have RC4 : RCls K R4 := ⟨⟨pgR4, hdR4, poR4, saR4⟩, nR40_, nR41_, nR42_, nR43_⟩
  have Fi5 := fun_mk (st := wInit) li5 ci5 ki5
  have bi5 := Fi5.binds (ps := ["self", "deed", "other"]) fun _ _ _ _ _ _ => len3 (fun _ _ _ => rfl)
  have Fg5 := fun_mk (st := wMach) lg5 cg5 kg5
  have bg5 := Fg5.binds (ps := ["self", "deeds"]) fun _ _ _ _ _ _ => len2 (fun _ _ => rfl)
  have Mg5 : Meth K R5 "machine" fg5 := ⟨qg5, ng5, kg5⟩
  have Mi5 : Mk K R5 fi5 := ⟨mkR5, qi5, ni5, kpR5⟩
  have RC5 : RCls K R5 := ⟨⟨pgR5, hdR5, poR5, saR5⟩, nR50_, nR51_, nR52_, nR53_⟩
  have FZ := fun_mk (st := tInit) lZ cZ kZ
  have bZ := FZ.binds (ps := ["self", "one", "other"]) fun _ _ _ _ _ _ => len3 (fun _ _ _ => rfl)
  have FI : FunD K "__init__" "Deeds.__init__" sInit fI _ := ⟨⟨_, _, _, _, _, _, _, _, _, _, rfl, lI, cI⟩, kI⟩
  have bI : Binds K _ ["self", "names", "free"] [] := fun s us KX hl => by
    rw [List.append_nil] at hl ⊢
    revert us
    exact len3 fun _ _ _ => BindsTo.of_defaults (fd := PySem.W.fnOf "__init__" "Deeds.__init__" (defArgs sInit) (defBody sInit) (defScope sInit) (.ref Td) kVI dcI pmI anI cdI ctI) rfl (KX _ _ lT) rfl rfl rfl
  have FMI : FunD K "__init__" "Machine.__init__" mInit fMI _ := ⟨⟨_, _, _, _, _, _, _, _, _, _, rfl, lMI, cMI⟩, kMI⟩
  have bMI : Binds K _ ["self", "deeds", "begin", "ends", "doors", "more"] [] := fun s us KX hl => by
    rw [List.append_nil] at hl ⊢
    revert us
    exact len6 fun _ _ _ _ _ _ => BindsTo.of_defaults (fd := PySem.W.fnOf "__init__" "Machine.__init__" (defArgs mInit) (defBody mInit) (defScope mInit) (.ref Te) kVMI dcMI pmMI anMI cdMI ctMI) rfl (KX _ _ lE) rfl rfl rfl
  have bMI1 : Binds K (PySem.W.fnOf "__init__" "Machine.__init__" (defArgs mInit) (defBody mInit) (defScope mInit) (.ref Te) kVMI dcMI pmMI anMI cdMI ctMI) ["self", "deeds", "begin", "ends", "doors", "more"] [.none] := fun s us KX hl => by
    have hl' : us.length = 5 := by
      have : us.length + 1 = 6 := by simpa using hl
      omega
    clear hl
    revert us
    exact len5 fun _ _ _ _ _ => BindsTo.of_defaults (fd := PySem.W.fnOf "__init__" "Machine.__init__" (defArgs mInit) (defBody mInit) (defScope mInit) (.ref Te) kVMI dcMI pmMI anMI cdMI ctMI) rfl (KX _ _ lE) rfl rfl rfl
  have MC : MCls K CM := ⟨⟨pgM, hdM, poM, saM⟩, nM0_, nM1_, nM2_, nM3_, nM4_⟩
  have MMk : Mk K CM fMI := ⟨mkM, qMI, nMI, kpM⟩
  have DC : DCls K C := ⟨⟨pgC, hdC, poC, saC⟩, nC0_, nC1_⟩
  have MI : Mk K C fI := ⟨mkC, qI, nI, kpC⟩
  let cl : Why → Addr := fun k => match k with | .noName => d0 | .noDeed => d1 | .twice => d3 | .tooMany => d4
  have Ex : Exc K mg cl := ⟨PySem.W.mg_of X G e0, PySem.W.mg_of X G e1, PySem.W.mg_of X G e3, PySem.W.mg_of X G e4, fun k => match k with | .noName => xa0 | .noDeed => xa1 | .twice => xa3 | .tooMany => xa4⟩
  let Cs : Nat → Addr := fun j => ([R0, R1, R2, R3, R4, R5] : List Addr).getD j 0
  let gs : Fin 6 → Addr := fun j => ([fg0, fg1, fg2, fg3, fg4, fg5] : List Addr).getD j.val 0
  let gds : Fin 6 → FuncData := fun j => ([(PySem.W.fnOf "machine" "Never.machine" (defArgs nMach) (defBody nMach) (defScope nMach) .none kVg0 dcg0 pmg0 ang0 cdg0 ctg0), (PySem.W.fnOf "machine" "Most.machine" (defArgs oMach) (defBody oMach) (defScope oMach) .none kVg1 dcg1 pmg1 ang1 cdg1 ctg1), (PySem.W.fnOf "machine" "Ahead.machine" (defArgs aMach) (defBody aMach) (defScope aMach) .none kVg2 dcg2 pmg2 ang2 cdg2 ctg2), (PySem.W.fnOf "machine" "Turns.machine" (defArgs uMach) (defBody uMach) (defScope uMach) .none kVg3 dcg3 pmg3 ang3 cdg3 ctg3), (PySem.W.fnOf "machine" "Hold.machine" (defArgs hMach) (defBody hMach) (defScope hMach) .none kVg4 dcg4 pmg4 ang4 cdg4 ctg4), (PySem.W.fnOf "machine" "Answer.machine" (defArgs wMach) (defBody wMach) (defScope wMach) .none kVg5 dcg5 pmg5 ang5 cdg5 ctg5)] : List FuncData).getD j.val (PySem.W.fnOf "machine" "Never.machine" (defArgs nMach) (defBody nMach) (defScope nMach) .none kVg0 dcg0 pmg0 ang0 cdg0 ctg0)
  have RC : ∀ i : Fin 6, RCls K (Cs i) := fin6 RC0 RC1 RC2 RC3 RC4 RC5
  have bgs : ∀ i : Fin 6, Binds K (gds i) ["self", "deeds"] [] := fin6 bg0 bg1 bg2 bg3 bg4 bg5
  have Mgs : ∀ i : Fin 6, Meth K (Cs i) "machine" (gs i) := fin6 Mg0 Mg1 Mg2 Mg3 Mg4 Mg5
  refine ⟨(PySem.W.fnOf "law" "law" (defArgs sLaw) (defBody sLaw) (defScope sLaw) .none kV22 dc22 pm22 an22 cd22 ct22), fun s v => .of_eq rfl, fun base _ _ bm => ?_⟩
  have mgo := fun {x : Str} {v : Value} (h : PySem.W.nsIn K mainGlobals x = some (some v)) => PySem.W.mg_of X G h
  have GQ := ok_require (P := l.prog) (w := w) (mg := mg) (base := base) Fm1 T Ex DC F3 b3 (mgo a3) Fm0 bm0 Mm0
  have GRq := ok_mReq (P := l.prog) (w := w) (mg := mg) (base := base) FM0 T MC F3 b3 (mgo a3)
  have GK := ok_marks (P := l.prog) (w := w) (mg := mg) (base := base) F6 T
  have GC := ok_cell (P := l.prog) (w := w) (mg := mg) (base := base) F2 T F1 b1 (mgo a1)
  have GB := ok_mBehind FM3 T DC MC (ok_mGoes FM2 MC) bM2 MM2 GQ bm1 Mm1
  have GMI := ok_mInit FMI T DC MC ⟨_, mgo cst4⟩ (ok_named F9) k9 b9 (mgo a9) (ok_refRooms F10 T Ex F3 b3 (mgo a3)) k10 b10 (mgo a10) (ok_leads F11) k11 b11 (mgo a11) GK k6 b6 (mgo a6) GQ bm1 Mm1
  have W : TwoC l.prog w K mg base CT fZ _ := ⟨mgo aT, sT, rT, fT_, hT, kZ, ok_tInit FZ, bZ⟩
  have GAL := ok_aboutL (P := l.prog) (w := w) (mg := mg) (base := base) F15
  have gm : ∀ i : Fin 6, FnOk l.prog w K mg base CX0 6 (gs i) (gds i) ["self", "deeds"] (spRM C CM Cs i) := fin6
    (ok_nMach (Cs := Cs) Fg0 RC0 MC GMI MMk (mgo aM) bMI (ok_nAbout (Cs := Cs) Fb0 RC0) bb0 Mb0)
    (ok_oMach (Cs := Cs) Fg1 T RC1 MC GMI MMk (mgo aM) bMI (ok_oAbout (Cs := Cs) Fb1 RC1) bb1 Mb1)
    (ok_aMach (Cs := Cs) Fg2 RC2 MC GMI MMk (mgo aM) bMI1) (ok_uMach (Cs := Cs) Fg3 RC3 MC GMI MMk (mgo aM) bMI1) (ok_hMach (Cs := Cs) Fg4 RC4 MC GMI MMk (mgo aM) bMI1) (ok_wMach (Cs := Cs) Fg5 RC5 MC GMI MMk (mgo aM) bMI1)
  have FL := fun_mk (st := sLaw) l22 c22 k22
  exact ok_law FL T DC MC RC GC k2 b2 (mgo a2)
    (ok_twoD F18 T (ok_deedsBy F8 T F1 b1 (mgo a1) F7 b7 (mgo a7)) k8 b8 (mgo a8)) k18 b18 (mgo a18)
    (ok_drawn F17 T) k17 b17 (mgo a17)
    (ok_init FI T DC (ok_refuse F4 T Ex F3 b3 (mgo a3)) k4 b4 (mgo a4) (ok_weights F5 T) k5 b5 (mgo a5) GK k6 b6 (mgo a6) GQ bm1 Mm1) MI bI (mgo aC)
    (ok_ruleOf (Cs := Cs) F14 RC (ok_nInit Fi0 RC0) Mi0 bi0 (mgo aR0) (ok_oInit Fi1 RC1 (ok_times F12 T ⟨_, mgo cst5⟩) k12 b12 (mgo a12)) Mi1 bi1 (mgo aR1) (ok_aInit Fi2 W) Mi2 bi2 (mgo aR2) (ok_uInit Fi3 W) Mi3 bi3 (mgo aR3) (ok_hInit Fi4 W) Mi4 bi4 (mgo aR4) (ok_wInit Fi5 W) Mi5 bi5 (mgo aR5)) k14 b14 (mgo a14)
    gm bgs Mgs
    (ok_someRow F21 T (ok_rowL F19 T (ok_mixed F1) k1 b1 (mgo a1)) k19 b19 (mgo a19) GAL k15 b15 (mgo a15)) k21 b21 (mgo a21)
    (ok_due F20 (ok_next F16 T GAL k15 b15 (mgo a15)) k16 b16 (mgo a16)) k20 b20 (mgo a20)
    (ok_keeps F13 DC MC RC gm bgs Mgs GB bM3 MM3) k13 b13 (mgo a13)
    GB bM3 MM3 (ok_mIsEnd FM1 MC GRq bM0 MM0) bM1 MM1
theorem walk {l : PySem.W.OpenLaw} {q : Program} {loose : List Str} {XP : (Str → Option Value) → Heap → Prop} {YP : World → Heap → Prop} {d : DefRec} {K : Params → PySem.W.Frag} (hn : l.most = some 63) (hdf : d.params.defaults = [])
    (hY : ∀ (w : World) (h : Heap), YP w h → (K w.params).In h)
    (F : ∀ (w : World) (mg : Str → Option Value) (fa : Addr) (h : Heap), (K w.params).In h → h.Ns mainGlobals mg → mg d.name = some (.ref fa) →
      ∃ fd : FuncData, (∀ (s : Shared) (u : Value), BindsTo s fd ⟨[u], []⟩ [("_law_script", u)]) ∧ ∀ base : Heap, (K w.params).In base → base.Ns mainGlobals mg → BMain mg base → FnOk l.prog w (K w.params) mg base CX0 9 fa fd ["_law_script"] (spLaw (K w.params))) :
    PySem.W.WalkO q loose XP YP l.row.toRowW d [] (fun f vs => PySem.call f vs) :=
  L2.walk_ofT (n := 63) (k := 9) (x := "_law_script") (sp := fun w => spLaw (K w.params)) [] hn (by decide) hdf ⟨rfl, by decide, by decide⟩ (fun w h Y => ⟨hY w h Y, fun p hp => (nomatch hp)⟩) (fun w p hp => (nomatch hp)) F
    (fun w H a ns hl _ hS => ⟨a, ns, rfl, hS, hl, fun _ => rfl⟩)
end K32
namespace Hd
open PySem PySem.W
noncomputable abbrev fTab := PySem.W.Fast.tw14364793385576792824
noncomputable abbrev fSegT := PySem.W.Fast.tw10110043849684766642
noncomputable abbrev fSeg := PySem.W.Fast.tw14374325043358763698
noncomputable abbrev fGo := PySem.W.Fast.tw15667345088766844465
noncomputable abbrev fRun := PySem.W.Fast.tw14082659384304107361
noncomputable abbrev fDen := PySem.W.Fast.tw11892475500146522536
noncomputable abbrev fSeen := PySem.W.Fast.tw4187177175401517315
theorem eTab : PySem.treeTable = fTab := PySem.W.Fast.te14364793385576792824
theorem eSegT : @PySem.W.segRunT = fSegT := PySem.W.Fast.te10110043849684766642
theorem eSeg : @PySem.W.segRun = fSeg := PySem.W.Fast.te14374325043358763698
theorem eGo : @PySem.W.topGo = fGo := PySem.W.Fast.te15667345088766844465
theorem eRun : @PySem.W.topRun = fRun := PySem.W.Fast.te14082659384304107361
theorem eDen : @PySem.denote = fDen := PySem.W.Fast.te11892475500146522536
theorem eSeen : @PySem.W.openSeen = fSeen := PySem.W.Fast.te4187177175401517315
noncomputable abbrev an : Option Value := some (.ref 6)
noncomputable abbrev p0 : Pos := ⟨0, 0, 0, 0⟩
noncomputable abbrev d0 : Drawn := ⟨0, 0, 0, 0⟩
noncomputable def lf : Life := ⟨[], [], [], 0, [], [], false, #[], [], 0, false, false, false, 0, [2000, 10, 10], false, 0, true, [], [], 0, false⟩
noncomputable def St (T : Params → BT) (n k : Nat) (w : World) (os : OsState) : SharedT := ⟨T w.params, n, lf, #[], d0, k, os⟩
noncomputable def Sh (H : Params → Heap) (k : Nat) (w : World) (os : OsState) : Shared := ⟨H w.params, #[], d0, k, os⟩
noncomputable abbrev cd (p : Program) (env : Env) : Code := .body (behindTheImports p) env
noncomputable abbrev B : List Frame := [topFrame p0]
noncomputable def Pre (p : Program) (env : Env) (H : Params → Heap) (k s : Nat) (a : Pos) : Prop :=
  ∀ w : World, (fun os => fGo fTab p w 11 an s ⟨boot_heap w.params, Array.mk [], boot_drawn, boot_toks, os⟩ (topStub p)) = fun os => some (Sh H k w os, ⟨fDen fTab (cd p env), cd p env, a, B⟩)
noncomputable def Blk (p : Program) (env : Env) (H : Params → Heap) (k : Nat) (T : Params → BT) (n k' s : Nat) (a b : Pos) : Prop :=
  ∀ w : World, (fun os => fSeg fTab p w 11 an 1 s (Sh H k w os) (blockOf (behindTheImports p) env (cd p env) a B)) = fun os => some (.next, (St T n k' w os).abs, cd p env, b)
noncomputable def Pc (p : Program) (env : Env) (T : Params → BT) (n k : Nat) (T' : Params → BT) (n' k' s : Nat) (l : List Stmt) (a b : Pos) : Prop :=
  ∀ w : World, (fun os => fSegT fTab p w 11 an 1 s (St T n k w os) (piecesOf l env (cd p env) a B)) = fun os => some (.next, St T' n' k' w os, cd p env, b)
noncomputable def Fi (p : Program) (env : Env) (T : Params → BT) (n k : Nat) (H : Params → Heap) (k' s : Nat) (a : Pos) : Prop :=
  ∀ w : World, (fun os => fRun fTab p w 11 an s (St T n k w os).abs ⟨doneF .next, cd p env, a, B⟩) = fun os => some (Sh H k' w os)
noncomputable def Rn (p : Program) (env : Env) (T : Params → BT) (n k : Nat) (H : Params → Heap) (k' : Nat) (l : List Stmt) (a : Pos) (N : Nat) : Prop :=
  ∀ (w : World) (os : OsState), topRun treeTable p w 11 an N (St T n k w os).abs (restOf l env (cd p env) a B) = some (Sh H k' w os)
section
variable {p : Program} {env : Env} {T T' : Params → BT} {H H' : Params → Heap} {n k n' k' kf s N : Nat} {l r : List Stmt} {a b : Pos}
theorem Fi.run (h : Fi p env T n k H k' s a) : Rn p env T n k H k' [] a s := fun w os => by
  refine piece_nil ?_
  rw [eRun, eTab]
  exact congrFun (h w) os
theorem Pc.run (h : Pc p env T n k T' n' k' s l a b) (q : Rn p env T' n' k' H kf r b N) : Rn p env T n k H kf (l ++ r) a (s + N) := fun w os => by
  refine piece_app (segRun_of ?_) (q w os)
  rw [eSegT, eTab]
  exact congrFun (h w) os
theorem top_run {s1 s2 : Nat} (h1 : Pre p env H' k s1 a) (h2 : Blk p env H' k T n k' s2 a b) (hl : l = behindTheImports p) (q : Rn p env T n k' H kf l b N) (w : World) (os : OsState) :
    topRun treeTable p w 11 an (s1 + (s2 + N)) ⟨boot_heap w.params, Array.mk [], boot_drawn, boot_toks, os⟩ (topStub p) = some (Sh H kf w os) := by
  have e1 : topGo treeTable p w 11 an s1 ⟨boot_heap w.params, Array.mk [], boot_drawn, boot_toks, os⟩ (topStub p) = some (Sh H' k w os, ⟨denote treeTable (cd p env), cd p env, a, B⟩) := by
    rw [eGo, eTab, eDen]
    exact congrFun (h1 w) os
  have e2 : segRun treeTable p w 11 an 1 s2 (Sh H' k w os) (blockOf (behindTheImports p) env (cd p env) a B) = some (.next, (St T n k' w os).abs, cd p env, b) := by
    rw [eSeg, eTab]
    exact congrFun (h2 w) os
  subst hl
  exact go_top e1 (piece_block e2 (q w os))
theorem boot_size : ∀ w : World, ((boot_heap w.params).isNs mainGlobals && (Array.mk [] : Array GenState).size == 0, (boot_heap w.params).objs.size, (boot_heap w.params).nsMap mainGlobals "__annotations__") = (true, 11, an) := by
  intro w
  kernel_rfl
theorem left_of {q : Program} {loose : List Str} {Xt : Shared → Bool} {α : Type} {Yf : Shared → α} {Ya : World → α} {M : Nat} (e : opening p = plainProg p.main.scope.names) (f : ∀ s, fenceModules? p s = some s) (hN : Nat.ble 600 N = true) (le : Nat.ble M N = true)
    (run : ∀ (w : World) (os : OsState), topRun treeTable p w 11 an M ⟨boot_heap w.params, Array.mk [], boot_drawn, boot_toks, os⟩ (topStub p) = some (Sh H k w os))
    (looks : ∀ w : World, (fun os => ((staticsOk (importedModules p.main.body) (boot_heap w.params) (H w.params) && namesBound p (H w.params) && gensDone (Sh H k w os) && laidKept (boot_heap w.params) (H w.params)),
        fSeen q loose (importedModules p.main.body) Xt true (Sh H k w os), Yf (Sh H k w os))) = fun _ => (true, openGood q loose, Ya w)) : LeftO p q loose Xt Yf Ya N true := by
  refine LeftO.of_pieces (boot_open e hN f) boot_size run le (fun w => ?_)
  have h := looks w
  rw [← eSeen] at h
  exact h
end
end Hd
namespace K32H
open PySem PySem.W
open L2 (inClass defArgs defBody defScope)
open PySem.W.BT renaming node → bn, nil → bz
noncomputable abbrev pp : Program := PySem.Challenge.pw_roomward_k32_whole_rules_keep
noncomputable def tp (i : Nat) : Stmt := pp.main.body.getD i (.Pass ⟨0, 0, 0, 0⟩)
abbrev kh := @PySem.PyData.keyHash
abbrev en (P : Params) (k : Str) (n : Nat) (v : Value) : DictEntry := ⟨kh P k, .str k n, v⟩
noncomputable section
def o0 (P : Params) : Obj := ⟨.type "tuple",none,.seq #[] 0,#[]⟩
def o1 (P : Params) : Obj := ⟨.none,none,.fields #[],#[]⟩
def o2 (P : Params) : Obj := ⟨.type "code",none,.fields #[.str "<module>" 182,.str "<module>" 183,.str "/claim/cut.py" 184,.int 1 0,.int 0 0,.int 0 0,.int 0 0,.int 0 0,.ref 11,.bool false,.int 181 0,.ref 12,.none,.none,.none,.none,.int 185 0,.int 1 0,.str "/claim/cut.py" 186],#[]⟩
def o3 (P : Params) : Obj := ⟨.type "frame",none,.plain,#[(some (.ref 13)),(some (.ref 3)),(some (.ref 3)),none,(some (.str "__main__" 164)),none,(some (.ref 0))]⟩
noncomputable def Ha (P : Params) : Heap := ⟨Array.mk [boot_o_0 P,boot_o_1 P,boot_o_2 P,boot_o_3 P,boot_o_4 P,boot_o_5 P,boot_o_6 P,boot_o_7 P,boot_o_8 P,boot_o_9 P,boot_o_10 P,o0 P,o1 P,o2 P,o3 P],Hd.lf⟩
noncomputable def env : Env := { scope := pp.main.scope, locals := mainNs, globals := mainNs, cells := [], code := .ref 13, frame := some 14 }
theorem pre : Hd.Pre pp env Ha 187 12 ⟨0, 0, 0, 0⟩ := by
  intro w
  kernel_rfl
noncomputable def T0 (P : Params) : BT := (bn (boot_o_0 P) (bn (boot_o_1 P) (bn (boot_o_3 P) (bn (boot_o_7 P) bz bz) (bn (o0 P) bz bz)) (bn (boot_o_5 P) (bn (boot_o_9 P) bz bz) (bn (o2 P) bz bz))) (bn (boot_o_2 P) (bn (boot_o_4 P) (bn (boot_o_8 P) bz bz) (bn (o1 P) bz bz)) (bn (boot_o_6 P) (bn (boot_o_10 P) bz bz) (bn (o3 P) bz bz))))
theorem blk : Hd.Blk pp env Ha 187 T0 15 187 1 ⟨0, 0, 0, 0⟩ ⟨0, 0, 0, 0⟩ := by
  intro w
  kernel_rfl
def o4 (P : Params) : Obj := ⟨.type "dict",none,.dict #[en P "__name__" 165 (.str "roomward.errors" 194),en P "__doc__" 166 .none,en P "__package__" 167 .none,en P "__loader__" 168 (.builtin "__main__.__loader__#opaque"),en P "__spec__" 169 .none,en P "__annotations__" 170 (.ref 6),en P "__builtins__" 171 (.ref 4),en P "__file__" 173 (.str "/claim/cut.py" 172),en P "__cached__" 174 .none,en P "_wall" 193 (.ref 21),en P "WardError" 213 (.ref 31)] 11,#[]⟩
def o5 (P : Params) : Obj := ⟨.none,none,.fields #[.int 1 0,.int 0 0,.ref 20,.int 5 0,.int 0 0,.ref 27],#[]⟩
def o6 (P : Params) : Obj := ⟨.type "tuple",none,.seq #[] 0,#[]⟩
def o7 (P : Params) : Obj := ⟨.none,none,.fields #[],#[]⟩
def o8 (P : Params) : Obj := ⟨.type "tuple",none,.seq #[.str "k" 190] 0,#[]⟩
def o9 (P : Params) : Obj := ⟨.type "tuple",none,.seq #[] 0,#[]⟩
def o10 (P : Params) : Obj := ⟨.none,none,.func ⟨"_wall","_wall",defArgs (tp 0),.stmts (defBody (tp 0)),defScope (tp 0),0,[],.none,.none,.none,.none,none,.none,.none,0⟩,#[]⟩
def o11 (P : Params) : Obj := ⟨.type "code",none,.fields #[.str "_wall" 187,.str "_wall" 188,.str "/claim/cut.py" 189,.int 1 0,.int 1 0,.int 0 0,.int 0 0,.int 3 0,.ref 15,.bool true,.int 181 0,.ref 16,.none,.ref 17,.ref 18,.ref 19,.int 191 0,.int 1 0,.str "/claim/cut.py" 192],#[]⟩
def o12 (P : Params) : Obj := ⟨.type "function",none,.func ⟨"_wall","_wall",defArgs (tp 0),.stmts (defBody (tp 0)),defScope (tp 0),3,[],.none,.none,.none,.str "__main__" 164,none,.ref 20,.none,0⟩,#[]⟩
def o13 (P : Params) : Obj := ⟨.type "tuple",none,.seq #[.type "ValueError"] 0,#[]⟩
def o14 (P : Params) : Obj := ⟨.type "builtin_function_or_method",none,.fields #[.builtin "type.__prepare__",.type "type"],#[]⟩
def o15 (P : Params) : Obj := ⟨.type "dict",none,.dict #[en P "__module__" 203 (.str "roomward.errors" 194),en P "__qualname__" 205 (.str "WardError" 204),en P "__firstlineno__" 207 (.int 5 206),en P "__static_attributes__" 208 (.ref 29)] 4,#[]⟩
def o16 (P : Params) : Obj := ⟨.type "tuple",none,.seq #[] 0,#[]⟩
def o17 (P : Params) : Obj := ⟨.none,none,.fields #[],#[]⟩
def o18 (P : Params) : Obj := ⟨.type "code",none,.fields #[.str "WardError" 198,.str "WardError" 199,.str "/claim/cut.py" 200,.int 5 0,.int 0 0,.int 0 0,.int 0 0,.int 0 0,.ref 25,.bool false,.int 181 0,.ref 26,.none,.none,.none,.none,.int 201 0,.int 5 0,.str "/claim/cut.py" 202],#[]⟩
def o19 (P : Params) : Obj := ⟨.type "frame",none,.plain,#[(some (.ref 27)),(some (.ref 3)),(some (.ref 24)),none,(some (.str "roomward.errors" 194)),none,(some (.ref 0))]⟩
def o20 (P : Params) : Obj := ⟨.type "tuple",none,.seq #[] 0,#[]⟩
def o21 (P : Params) : Obj := ⟨.type "dict",none,.dict #[en P "__module__" 203 (.str "roomward.errors" 194),en P "__firstlineno__" 207 (.int 5 206),en P "__static_attributes__" 208 (.ref 29),en P "__weakref__" 210 (.ref 32),en P "__doc__" 211 .none] 3,#[]⟩
def o22 (P : Params) : Obj := ⟨.type "type",none,.cls ⟨"WardError",[.type "ValueError"],[.ref 31,.type "ValueError",.type "Exception",.type "BaseException",.type "object"],30,"WardError",true,[],[],false,none,false⟩,#[(some (.ref 22)),none,(some (.str "WardError" 196)),(some (.str "WardError" 204)),(some (.builtin "ValueError.__new__")),(some (.bool true))]⟩
def o23 (P : Params) : Obj := ⟨.type "getset_descriptor",none,.fields #[.str "__weakref__" 209,.ref 31,.builtin "ExceptionGroup.__weakref__",.none],#[]⟩
def o24 (P : Params) : Obj := ⟨.type "super",none,.fields #[.ref 31,.ref 31,.ref 31],#[]⟩
def o25 (P : Params) : Obj := ⟨.type "builtin_function_or_method",none,.fields #[.builtin "object.__init_subclass__",.ref 31],#[]⟩
noncomputable def T1 (P : Params) : BT := (bn (boot_o_0 P) (bn (boot_o_1 P) (bn (o4 P) (bn (boot_o_7 P) (bn (o6 P) (bn (o22 P) bz bz) bz) (bn (o14 P) bz bz)) (bn (o0 P) (bn (o10 P) bz bz) (bn (o18 P) bz bz))) (bn (boot_o_5 P) (bn (boot_o_9 P) (bn (o8 P) (bn (o24 P) bz bz) bz) (bn (o16 P) bz bz)) (bn (o2 P) (bn (o12 P) bz bz) (bn (o20 P) bz bz)))) (bn (boot_o_2 P) (bn (boot_o_4 P) (bn (boot_o_8 P) (bn (o7 P) (bn (o23 P) bz bz) bz) (bn (o15 P) bz bz)) (bn (o5 P) (bn (o11 P) bz bz) (bn (o19 P) bz bz))) (bn (boot_o_6 P) (bn (boot_o_10 P) (bn (o9 P) (bn (o25 P) bz bz) bz) (bn (o17 P) bz bz)) (bn (o3 P) (bn (o13 P) bz bz) (bn (o21 P) bz bz)))))
theorem pc1 : Hd.Pc pp env T0 15 187 T1 35 214 225 [tp 0, tp 1, tp 2] ⟨0, 0, 0, 0⟩ ⟨5, 0, 6, 8⟩ := by
  intro w
  kernel_rfl
def o26 (P : Params) : Obj := ⟨.type "dict",none,.dict #[en P "__name__" 165 (.str "roomward.errors" 194),en P "__doc__" 166 .none,en P "__package__" 167 .none,en P "__loader__" 168 (.builtin "__main__.__loader__#opaque"),en P "__spec__" 169 .none,en P "__annotations__" 170 (.ref 6),en P "__builtins__" 171 (.ref 4),en P "__file__" 173 (.str "/claim/cut.py" 172),en P "__cached__" 174 .none,en P "_wall" 193 (.ref 21),en P "WardError" 213 (.ref 31),en P "NoName" 229 (.ref 44)] 12,#[]⟩
def o27 (P : Params) : Obj := ⟨.none,none,.fields #[.int 1 0,.int 0 0,.ref 20,.int 5 0,.int 0 0,.ref 27,.int 7 0,.int 0 0,.ref 40],#[]⟩
def o28 (P : Params) : Obj := ⟨.type "type",none,.cls ⟨"WardError",[.type "ValueError"],[.ref 31,.type "ValueError",.type "Exception",.type "BaseException",.type "object"],30,"WardError",true,[],[.ref 44],false,none,false⟩,#[(some (.ref 22)),none,(some (.str "WardError" 196)),(some (.str "WardError" 204)),(some (.builtin "ValueError.__new__")),(some (.bool true))]⟩
def o29 (P : Params) : Obj := ⟨.type "tuple",none,.seq #[.ref 31] 0,#[]⟩
def o30 (P : Params) : Obj := ⟨.type "builtin_function_or_method",none,.fields #[.builtin "type.__prepare__",.type "type"],#[]⟩
def o31 (P : Params) : Obj := ⟨.type "dict",none,.dict #[en P "__module__" 221 (.str "roomward.errors" 194),en P "__qualname__" 223 (.str "NoName" 222),en P "__firstlineno__" 225 (.int 7 224),en P "__static_attributes__" 226 (.ref 42)] 4,#[]⟩
def o32 (P : Params) : Obj := ⟨.type "tuple",none,.seq #[] 0,#[]⟩
def o33 (P : Params) : Obj := ⟨.none,none,.fields #[],#[]⟩
def o34 (P : Params) : Obj := ⟨.type "code",none,.fields #[.str "NoName" 216,.str "NoName" 217,.str "/claim/cut.py" 218,.int 7 0,.int 0 0,.int 0 0,.int 0 0,.int 0 0,.ref 38,.bool false,.int 181 0,.ref 39,.none,.none,.none,.none,.int 219 0,.int 7 0,.str "/claim/cut.py" 220],#[]⟩
def o35 (P : Params) : Obj := ⟨.type "frame",none,.plain,#[(some (.ref 40)),(some (.ref 3)),(some (.ref 37)),none,(some (.str "roomward.errors" 194)),none,(some (.ref 0))]⟩
def o36 (P : Params) : Obj := ⟨.type "tuple",none,.seq #[] 0,#[]⟩
def o37 (P : Params) : Obj := ⟨.type "dict",none,.dict #[en P "__module__" 221 (.str "roomward.errors" 194),en P "__firstlineno__" 225 (.int 7 224),en P "__static_attributes__" 226 (.ref 42),en P "__doc__" 227 .none] 2,#[]⟩
def o38 (P : Params) : Obj := ⟨.type "type",none,.cls ⟨"NoName",[.ref 31],[.ref 44,.ref 31,.type "ValueError",.type "Exception",.type "BaseException",.type "object"],43,"NoName",true,[],[],false,none,false⟩,#[(some (.ref 35)),none,(some (.str "NoName" 214)),(some (.str "NoName" 222)),(some (.builtin "ValueError.__new__")),(some (.bool true))]⟩
def o39 (P : Params) : Obj := ⟨.type "super",none,.fields #[.ref 44,.ref 44,.ref 44],#[]⟩
def o40 (P : Params) : Obj := ⟨.type "builtin_function_or_method",none,.fields #[.builtin "object.__init_subclass__",.ref 44],#[]⟩
noncomputable def T2 (P : Params) : BT := (bn (boot_o_0 P) (bn (boot_o_1 P) (bn (o26 P) (bn (boot_o_7 P) (bn (o6 P) (bn (o28 P) bz bz) bz) (bn (o14 P) (bn (o33 P) bz bz) bz)) (bn (o0 P) (bn (o10 P) (bn (o29 P) bz bz) bz) (bn (o18 P) (bn (o37 P) bz bz) bz))) (bn (boot_o_5 P) (bn (boot_o_9 P) (bn (o8 P) (bn (o24 P) bz bz) bz) (bn (o16 P) (bn (o35 P) bz bz) bz)) (bn (o2 P) (bn (o12 P) (bn (o31 P) bz bz) bz) (bn (o20 P) (bn (o39 P) bz bz) bz)))) (bn (boot_o_2 P) (bn (boot_o_4 P) (bn (boot_o_8 P) (bn (o7 P) (bn (o23 P) bz bz) bz) (bn (o15 P) (bn (o34 P) bz bz) bz)) (bn (o27 P) (bn (o11 P) (bn (o30 P) bz bz) bz) (bn (o19 P) (bn (o38 P) bz bz) bz))) (bn (boot_o_6 P) (bn (boot_o_10 P) (bn (o9 P) (bn (o25 P) bz bz) bz) (bn (o17 P) (bn (o36 P) bz bz) bz)) (bn (o3 P) (bn (o13 P) (bn (o32 P) bz bz) bz) (bn (o21 P) (bn (o40 P) bz bz) bz)))))
theorem pc2 : Hd.Pc pp env T1 35 214 T2 47 230 214 [tp 3] ⟨5, 0, 6, 8⟩ ⟨7, 0, 8, 8⟩ := by
  intro w
  kernel_rfl
def o41 (P : Params) : Obj := ⟨.type "dict",none,.dict #[en P "__name__" 165 (.str "roomward.errors" 194),en P "__doc__" 166 .none,en P "__package__" 167 .none,en P "__loader__" 168 (.builtin "__main__.__loader__#opaque"),en P "__spec__" 169 .none,en P "__annotations__" 170 (.ref 6),en P "__builtins__" 171 (.ref 4),en P "__file__" 173 (.str "/claim/cut.py" 172),en P "__cached__" 174 .none,en P "_wall" 193 (.ref 21),en P "WardError" 213 (.ref 31),en P "NoName" 229 (.ref 44),en P "NoDeed" 245 (.ref 56)] 13,#[]⟩
def o42 (P : Params) : Obj := ⟨.none,none,.fields #[.int 1 0,.int 0 0,.ref 20,.int 5 0,.int 0 0,.ref 27,.int 7 0,.int 0 0,.ref 40,.int 9 0,.int 0 0,.ref 52],#[]⟩
def o43 (P : Params) : Obj := ⟨.type "type",none,.cls ⟨"WardError",[.type "ValueError"],[.ref 31,.type "ValueError",.type "Exception",.type "BaseException",.type "object"],30,"WardError",true,[],[.ref 44,.ref 56],false,none,false⟩,#[(some (.ref 22)),none,(some (.str "WardError" 196)),(some (.str "WardError" 204)),(some (.builtin "ValueError.__new__")),(some (.bool true))]⟩
def o44 (P : Params) : Obj := ⟨.type "tuple",none,.seq #[.ref 31] 0,#[]⟩
def o45 (P : Params) : Obj := ⟨.type "builtin_function_or_method",none,.fields #[.builtin "type.__prepare__",.type "type"],#[]⟩
def o46 (P : Params) : Obj := ⟨.type "dict",none,.dict #[en P "__module__" 237 (.str "roomward.errors" 194),en P "__qualname__" 239 (.str "NoDeed" 238),en P "__firstlineno__" 241 (.int 9 240),en P "__static_attributes__" 242 (.ref 54)] 4,#[]⟩
def o47 (P : Params) : Obj := ⟨.type "tuple",none,.seq #[] 0,#[]⟩
def o48 (P : Params) : Obj := ⟨.none,none,.fields #[],#[]⟩
def o49 (P : Params) : Obj := ⟨.type "code",none,.fields #[.str "NoDeed" 232,.str "NoDeed" 233,.str "/claim/cut.py" 234,.int 9 0,.int 0 0,.int 0 0,.int 0 0,.int 0 0,.ref 50,.bool false,.int 181 0,.ref 51,.none,.none,.none,.none,.int 235 0,.int 9 0,.str "/claim/cut.py" 236],#[]⟩
def o50 (P : Params) : Obj := ⟨.type "frame",none,.plain,#[(some (.ref 52)),(some (.ref 3)),(some (.ref 49)),none,(some (.str "roomward.errors" 194)),none,(some (.ref 0))]⟩
def o51 (P : Params) : Obj := ⟨.type "tuple",none,.seq #[] 0,#[]⟩
def o52 (P : Params) : Obj := ⟨.type "dict",none,.dict #[en P "__module__" 237 (.str "roomward.errors" 194),en P "__firstlineno__" 241 (.int 9 240),en P "__static_attributes__" 242 (.ref 54),en P "__doc__" 243 .none] 2,#[]⟩
def o53 (P : Params) : Obj := ⟨.type "type",none,.cls ⟨"NoDeed",[.ref 31],[.ref 56,.ref 31,.type "ValueError",.type "Exception",.type "BaseException",.type "object"],55,"NoDeed",true,[],[],false,none,false⟩,#[(some (.ref 47)),none,(some (.str "NoDeed" 230)),(some (.str "NoDeed" 238)),(some (.builtin "ValueError.__new__")),(some (.bool true))]⟩
def o54 (P : Params) : Obj := ⟨.type "super",none,.fields #[.ref 56,.ref 56,.ref 56],#[]⟩
def o55 (P : Params) : Obj := ⟨.type "builtin_function_or_method",none,.fields #[.builtin "object.__init_subclass__",.ref 56],#[]⟩
noncomputable def T3 (P : Params) : BT := (bn (boot_o_0 P) (bn (boot_o_1 P) (bn (o41 P) (bn (boot_o_7 P) (bn (o6 P) (bn (o43 P) bz bz) (bn (o44 P) bz bz)) (bn (o14 P) (bn (o33 P) bz bz) (bn (o52 P) bz bz))) (bn (o0 P) (bn (o10 P) (bn (o29 P) bz bz) (bn (o48 P) bz bz)) (bn (o18 P) (bn (o37 P) bz bz) bz))) (bn (boot_o_5 P) (bn (boot_o_9 P) (bn (o8 P) (bn (o24 P) bz bz) (bn (o46 P) bz bz)) (bn (o16 P) (bn (o35 P) bz bz) (bn (o54 P) bz bz))) (bn (o2 P) (bn (o12 P) (bn (o31 P) bz bz) (bn (o50 P) bz bz)) (bn (o20 P) (bn (o39 P) bz bz) bz)))) (bn (boot_o_2 P) (bn (boot_o_4 P) (bn (boot_o_8 P) (bn (o7 P) (bn (o23 P) bz bz) (bn (o45 P) bz bz)) (bn (o15 P) (bn (o34 P) bz bz) (bn (o53 P) bz bz))) (bn (o42 P) (bn (o11 P) (bn (o30 P) bz bz) (bn (o49 P) bz bz)) (bn (o19 P) (bn (o38 P) bz bz) bz))) (bn (boot_o_6 P) (bn (boot_o_10 P) (bn (o9 P) (bn (o25 P) bz bz) (bn (o47 P) bz bz)) (bn (o17 P) (bn (o36 P) bz bz) (bn (o55 P) bz bz))) (bn (o3 P) (bn (o13 P) (bn (o32 P) bz bz) (bn (o51 P) bz bz)) (bn (o21 P) (bn (o40 P) bz bz) bz)))))
theorem pc3 : Hd.Pc pp env T2 47 230 T3 59 246 214 [tp 4] ⟨7, 0, 8, 8⟩ ⟨9, 0, 10, 8⟩ := by
  intro w
  kernel_rfl
def o56 (P : Params) : Obj := ⟨.type "dict",none,.dict #[en P "__name__" 165 (.str "roomward.errors" 194),en P "__doc__" 166 .none,en P "__package__" 167 .none,en P "__loader__" 168 (.builtin "__main__.__loader__#opaque"),en P "__spec__" 169 .none,en P "__annotations__" 170 (.ref 6),en P "__builtins__" 171 (.ref 4),en P "__file__" 173 (.str "/claim/cut.py" 172),en P "__cached__" 174 .none,en P "_wall" 193 (.ref 21),en P "WardError" 213 (.ref 31),en P "NoName" 229 (.ref 44),en P "NoDeed" 245 (.ref 56),en P "NoRoom" 261 (.ref 68)] 14,#[]⟩
def o57 (P : Params) : Obj := ⟨.none,none,.fields #[.int 1 0,.int 0 0,.ref 20,.int 5 0,.int 0 0,.ref 27,.int 7 0,.int 0 0,.ref 40,.int 9 0,.int 0 0,.ref 52,.int 11 0,.int 0 0,.ref 64],#[]⟩
def o58 (P : Params) : Obj := ⟨.type "type",none,.cls ⟨"WardError",[.type "ValueError"],[.ref 31,.type "ValueError",.type "Exception",.type "BaseException",.type "object"],30,"WardError",true,[],[.ref 44,.ref 56,.ref 68],false,none,false⟩,#[(some (.ref 22)),none,(some (.str "WardError" 196)),(some (.str "WardError" 204)),(some (.builtin "ValueError.__new__")),(some (.bool true))]⟩
def o59 (P : Params) : Obj := ⟨.type "tuple",none,.seq #[.ref 31] 0,#[]⟩
def o60 (P : Params) : Obj := ⟨.type "builtin_function_or_method",none,.fields #[.builtin "type.__prepare__",.type "type"],#[]⟩
def o61 (P : Params) : Obj := ⟨.type "dict",none,.dict #[en P "__module__" 253 (.str "roomward.errors" 194),en P "__qualname__" 255 (.str "NoRoom" 254),en P "__firstlineno__" 257 (.int 11 256),en P "__static_attributes__" 258 (.ref 66)] 4,#[]⟩
def o62 (P : Params) : Obj := ⟨.type "tuple",none,.seq #[] 0,#[]⟩
def o63 (P : Params) : Obj := ⟨.none,none,.fields #[],#[]⟩
def o64 (P : Params) : Obj := ⟨.type "code",none,.fields #[.str "NoRoom" 248,.str "NoRoom" 249,.str "/claim/cut.py" 250,.int 11 0,.int 0 0,.int 0 0,.int 0 0,.int 0 0,.ref 62,.bool false,.int 181 0,.ref 63,.none,.none,.none,.none,.int 251 0,.int 11 0,.str "/claim/cut.py" 252],#[]⟩
def o65 (P : Params) : Obj := ⟨.type "frame",none,.plain,#[(some (.ref 64)),(some (.ref 3)),(some (.ref 61)),none,(some (.str "roomward.errors" 194)),none,(some (.ref 0))]⟩
def o66 (P : Params) : Obj := ⟨.type "tuple",none,.seq #[] 0,#[]⟩
def o67 (P : Params) : Obj := ⟨.type "dict",none,.dict #[en P "__module__" 253 (.str "roomward.errors" 194),en P "__firstlineno__" 257 (.int 11 256),en P "__static_attributes__" 258 (.ref 66),en P "__doc__" 259 .none] 2,#[]⟩
def o68 (P : Params) : Obj := ⟨.type "type",none,.cls ⟨"NoRoom",[.ref 31],[.ref 68,.ref 31,.type "ValueError",.type "Exception",.type "BaseException",.type "object"],67,"NoRoom",true,[],[],false,none,false⟩,#[(some (.ref 59)),none,(some (.str "NoRoom" 246)),(some (.str "NoRoom" 254)),(some (.builtin "ValueError.__new__")),(some (.bool true))]⟩
def o69 (P : Params) : Obj := ⟨.type "super",none,.fields #[.ref 68,.ref 68,.ref 68],#[]⟩
def o70 (P : Params) : Obj := ⟨.type "builtin_function_or_method",none,.fields #[.builtin "object.__init_subclass__",.ref 68],#[]⟩
noncomputable def T4 (P : Params) : BT := (bn (boot_o_0 P) (bn (boot_o_1 P) (bn (o56 P) (bn (boot_o_7 P) (bn (o6 P) (bn (o58 P) (bn (o63 P) bz bz) bz) (bn (o44 P) bz bz)) (bn (o14 P) (bn (o33 P) bz bz) (bn (o52 P) bz bz))) (bn (o0 P) (bn (o10 P) (bn (o29 P) (bn (o67 P) bz bz) bz) (bn (o48 P) bz bz)) (bn (o18 P) (bn (o37 P) bz bz) (bn (o59 P) bz bz)))) (bn (boot_o_5 P) (bn (boot_o_9 P) (bn (o8 P) (bn (o24 P) (bn (o65 P) bz bz) bz) (bn (o46 P) bz bz)) (bn (o16 P) (bn (o35 P) bz bz) (bn (o54 P) bz bz))) (bn (o2 P) (bn (o12 P) (bn (o31 P) (bn (o69 P) bz bz) bz) (bn (o50 P) bz bz)) (bn (o20 P) (bn (o39 P) bz bz) (bn (o61 P) bz bz))))) (bn (boot_o_2 P) (bn (boot_o_4 P) (bn (boot_o_8 P) (bn (o7 P) (bn (o23 P) (bn (o64 P) bz bz) bz) (bn (o45 P) bz bz)) (bn (o15 P) (bn (o34 P) bz bz) (bn (o53 P) bz bz))) (bn (o57 P) (bn (o11 P) (bn (o30 P) (bn (o68 P) bz bz) bz) (bn (o49 P) bz bz)) (bn (o19 P) (bn (o38 P) bz bz) (bn (o60 P) bz bz)))) (bn (boot_o_6 P) (bn (boot_o_10 P) (bn (o9 P) (bn (o25 P) (bn (o66 P) bz bz) bz) (bn (o47 P) bz bz)) (bn (o17 P) (bn (o36 P) bz bz) (bn (o55 P) bz bz))) (bn (o3 P) (bn (o13 P) (bn (o32 P) (bn (o70 P) bz bz) bz) (bn (o51 P) bz bz)) (bn (o21 P) (bn (o40 P) bz bz) (bn (o62 P) bz bz))))))
theorem pc4 : Hd.Pc pp env T3 59 246 T4 71 262 214 [tp 5] ⟨9, 0, 10, 8⟩ ⟨11, 0, 12, 8⟩ := by
  intro w
  kernel_rfl
def o71 (P : Params) : Obj := ⟨.type "dict",none,.dict #[en P "__name__" 165 (.str "roomward.errors" 194),en P "__doc__" 166 .none,en P "__package__" 167 .none,en P "__loader__" 168 (.builtin "__main__.__loader__#opaque"),en P "__spec__" 169 .none,en P "__annotations__" 170 (.ref 6),en P "__builtins__" 171 (.ref 4),en P "__file__" 173 (.str "/claim/cut.py" 172),en P "__cached__" 174 .none,en P "_wall" 193 (.ref 21),en P "WardError" 213 (.ref 31),en P "NoName" 229 (.ref 44),en P "NoDeed" 245 (.ref 56),en P "NoRoom" 261 (.ref 68),en P "TwiceTold" 277 (.ref 80)] 15,#[]⟩
def o72 (P : Params) : Obj := ⟨.none,none,.fields #[.int 1 0,.int 0 0,.ref 20,.int 5 0,.int 0 0,.ref 27,.int 7 0,.int 0 0,.ref 40,.int 9 0,.int 0 0,.ref 52,.int 11 0,.int 0 0,.ref 64,.int 13 0,.int 0 0,.ref 76],#[]⟩
def o73 (P : Params) : Obj := ⟨.type "type",none,.cls ⟨"WardError",[.type "ValueError"],[.ref 31,.type "ValueError",.type "Exception",.type "BaseException",.type "object"],30,"WardError",true,[],[.ref 44,.ref 56,.ref 68,.ref 80],false,none,false⟩,#[(some (.ref 22)),none,(some (.str "WardError" 196)),(some (.str "WardError" 204)),(some (.builtin "ValueError.__new__")),(some (.bool true))]⟩
def o74 (P : Params) : Obj := ⟨.type "tuple",none,.seq #[.ref 31] 0,#[]⟩
def o75 (P : Params) : Obj := ⟨.type "builtin_function_or_method",none,.fields #[.builtin "type.__prepare__",.type "type"],#[]⟩
def o76 (P : Params) : Obj := ⟨.type "dict",none,.dict #[en P "__module__" 269 (.str "roomward.errors" 194),en P "__qualname__" 271 (.str "TwiceTold" 270),en P "__firstlineno__" 273 (.int 13 272),en P "__static_attributes__" 274 (.ref 78)] 4,#[]⟩
def o77 (P : Params) : Obj := ⟨.type "tuple",none,.seq #[] 0,#[]⟩
def o78 (P : Params) : Obj := ⟨.none,none,.fields #[],#[]⟩
def o79 (P : Params) : Obj := ⟨.type "code",none,.fields #[.str "TwiceTold" 264,.str "TwiceTold" 265,.str "/claim/cut.py" 266,.int 13 0,.int 0 0,.int 0 0,.int 0 0,.int 0 0,.ref 74,.bool false,.int 181 0,.ref 75,.none,.none,.none,.none,.int 267 0,.int 13 0,.str "/claim/cut.py" 268],#[]⟩
def o80 (P : Params) : Obj := ⟨.type "frame",none,.plain,#[(some (.ref 76)),(some (.ref 3)),(some (.ref 73)),none,(some (.str "roomward.errors" 194)),none,(some (.ref 0))]⟩
def o81 (P : Params) : Obj := ⟨.type "tuple",none,.seq #[] 0,#[]⟩
def o82 (P : Params) : Obj := ⟨.type "dict",none,.dict #[en P "__module__" 269 (.str "roomward.errors" 194),en P "__firstlineno__" 273 (.int 13 272),en P "__static_attributes__" 274 (.ref 78),en P "__doc__" 275 .none] 2,#[]⟩
def o83 (P : Params) : Obj := ⟨.type "type",none,.cls ⟨"TwiceTold",[.ref 31],[.ref 80,.ref 31,.type "ValueError",.type "Exception",.type "BaseException",.type "object"],79,"TwiceTold",true,[],[],false,none,false⟩,#[(some (.ref 71)),none,(some (.str "TwiceTold" 262)),(some (.str "TwiceTold" 270)),(some (.builtin "ValueError.__new__")),(some (.bool true))]⟩
def o84 (P : Params) : Obj := ⟨.type "super",none,.fields #[.ref 80,.ref 80,.ref 80],#[]⟩
def o85 (P : Params) : Obj := ⟨.type "builtin_function_or_method",none,.fields #[.builtin "object.__init_subclass__",.ref 80],#[]⟩
noncomputable def T5 (P : Params) : BT := (bn (boot_o_0 P) (bn (boot_o_1 P) (bn (o71 P) (bn (boot_o_7 P) (bn (o6 P) (bn (o73 P) (bn (o63 P) bz bz) bz) (bn (o44 P) (bn (o82 P) bz bz) bz)) (bn (o14 P) (bn (o33 P) (bn (o74 P) bz bz) bz) (bn (o52 P) bz bz))) (bn (o0 P) (bn (o10 P) (bn (o29 P) (bn (o67 P) bz bz) bz) (bn (o48 P) bz bz)) (bn (o18 P) (bn (o37 P) (bn (o78 P) bz bz) bz) (bn (o59 P) bz bz)))) (bn (boot_o_5 P) (bn (boot_o_9 P) (bn (o8 P) (bn (o24 P) (bn (o65 P) bz bz) bz) (bn (o46 P) (bn (o84 P) bz bz) bz)) (bn (o16 P) (bn (o35 P) (bn (o76 P) bz bz) bz) (bn (o54 P) bz bz))) (bn (o2 P) (bn (o12 P) (bn (o31 P) (bn (o69 P) bz bz) bz) (bn (o50 P) bz bz)) (bn (o20 P) (bn (o39 P) (bn (o80 P) bz bz) bz) (bn (o61 P) bz bz))))) (bn (boot_o_2 P) (bn (boot_o_4 P) (bn (boot_o_8 P) (bn (o7 P) (bn (o23 P) (bn (o64 P) bz bz) bz) (bn (o45 P) (bn (o83 P) bz bz) bz)) (bn (o15 P) (bn (o34 P) (bn (o75 P) bz bz) bz) (bn (o53 P) bz bz))) (bn (o72 P) (bn (o11 P) (bn (o30 P) (bn (o68 P) bz bz) bz) (bn (o49 P) bz bz)) (bn (o19 P) (bn (o38 P) (bn (o79 P) bz bz) bz) (bn (o60 P) bz bz)))) (bn (boot_o_6 P) (bn (boot_o_10 P) (bn (o9 P) (bn (o25 P) (bn (o66 P) bz bz) bz) (bn (o47 P) (bn (o85 P) bz bz) bz)) (bn (o17 P) (bn (o36 P) (bn (o77 P) bz bz) bz) (bn (o55 P) bz bz))) (bn (o3 P) (bn (o13 P) (bn (o32 P) (bn (o70 P) bz bz) bz) (bn (o51 P) bz bz)) (bn (o21 P) (bn (o40 P) (bn (o81 P) bz bz) bz) (bn (o62 P) bz bz))))))
theorem pc5 : Hd.Pc pp env T4 71 262 T5 83 278 214 [tp 6] ⟨11, 0, 12, 8⟩ ⟨13, 0, 14, 8⟩ := by
  intro w
  kernel_rfl
def o86 (P : Params) : Obj := ⟨.type "dict",none,.dict #[en P "__name__" 165 (.str "roomward.errors" 194),en P "__doc__" 166 .none,en P "__package__" 167 .none,en P "__loader__" 168 (.builtin "__main__.__loader__#opaque"),en P "__spec__" 169 .none,en P "__annotations__" 170 (.ref 6),en P "__builtins__" 171 (.ref 4),en P "__file__" 173 (.str "/claim/cut.py" 172),en P "__cached__" 174 .none,en P "_wall" 193 (.ref 21),en P "WardError" 213 (.ref 31),en P "NoName" 229 (.ref 44),en P "NoDeed" 245 (.ref 56),en P "NoRoom" 261 (.ref 68),en P "TwiceTold" 277 (.ref 80),en P "TooMany" 293 (.ref 92)] 16,#[]⟩
def o87 (P : Params) : Obj := ⟨.none,none,.fields #[.int 1 0,.int 0 0,.ref 20,.int 5 0,.int 0 0,.ref 27,.int 7 0,.int 0 0,.ref 40,.int 9 0,.int 0 0,.ref 52,.int 11 0,.int 0 0,.ref 64,.int 13 0,.int 0 0,.ref 76,.int 15 0,.int 0 0,.ref 88],#[]⟩
def o88 (P : Params) : Obj := ⟨.type "type",none,.cls ⟨"WardError",[.type "ValueError"],[.ref 31,.type "ValueError",.type "Exception",.type "BaseException",.type "object"],30,"WardError",true,[],[.ref 44,.ref 56,.ref 68,.ref 80,.ref 92],false,none,false⟩,#[(some (.ref 22)),none,(some (.str "WardError" 196)),(some (.str "WardError" 204)),(some (.builtin "ValueError.__new__")),(some (.bool true))]⟩
def o89 (P : Params) : Obj := ⟨.type "tuple",none,.seq #[.ref 31] 0,#[]⟩
def o90 (P : Params) : Obj := ⟨.type "builtin_function_or_method",none,.fields #[.builtin "type.__prepare__",.type "type"],#[]⟩
def o91 (P : Params) : Obj := ⟨.type "dict",none,.dict #[en P "__module__" 285 (.str "roomward.errors" 194),en P "__qualname__" 287 (.str "TooMany" 286),en P "__firstlineno__" 289 (.int 15 288),en P "__static_attributes__" 290 (.ref 90)] 4,#[]⟩
def o92 (P : Params) : Obj := ⟨.type "tuple",none,.seq #[] 0,#[]⟩
def o93 (P : Params) : Obj := ⟨.none,none,.fields #[],#[]⟩
def o94 (P : Params) : Obj := ⟨.type "code",none,.fields #[.str "TooMany" 280,.str "TooMany" 281,.str "/claim/cut.py" 282,.int 15 0,.int 0 0,.int 0 0,.int 0 0,.int 0 0,.ref 86,.bool false,.int 181 0,.ref 87,.none,.none,.none,.none,.int 283 0,.int 15 0,.str "/claim/cut.py" 284],#[]⟩
def o95 (P : Params) : Obj := ⟨.type "frame",none,.plain,#[(some (.ref 88)),(some (.ref 3)),(some (.ref 85)),none,(some (.str "roomward.errors" 194)),none,(some (.ref 0))]⟩
def o96 (P : Params) : Obj := ⟨.type "tuple",none,.seq #[] 0,#[]⟩
def o97 (P : Params) : Obj := ⟨.type "dict",none,.dict #[en P "__module__" 285 (.str "roomward.errors" 194),en P "__firstlineno__" 289 (.int 15 288),en P "__static_attributes__" 290 (.ref 90),en P "__doc__" 291 .none] 2,#[]⟩
def o98 (P : Params) : Obj := ⟨.type "type",none,.cls ⟨"TooMany",[.ref 31],[.ref 92,.ref 31,.type "ValueError",.type "Exception",.type "BaseException",.type "object"],91,"TooMany",true,[],[],false,none,false⟩,#[(some (.ref 83)),none,(some (.str "TooMany" 278)),(some (.str "TooMany" 286)),(some (.builtin "ValueError.__new__")),(some (.bool true))]⟩
def o99 (P : Params) : Obj := ⟨.type "super",none,.fields #[.ref 92,.ref 92,.ref 92],#[]⟩
def o100 (P : Params) : Obj := ⟨.type "builtin_function_or_method",none,.fields #[.builtin "object.__init_subclass__",.ref 92],#[]⟩
noncomputable def T6 (P : Params) : BT := (bn (boot_o_0 P) (bn (boot_o_1 P) (bn (o86 P) (bn (boot_o_7 P) (bn (o6 P) (bn (o88 P) (bn (o63 P) bz bz) bz) (bn (o44 P) (bn (o82 P) bz bz) bz)) (bn (o14 P) (bn (o33 P) (bn (o74 P) bz bz) bz) (bn (o52 P) (bn (o93 P) bz bz) bz))) (bn (o0 P) (bn (o10 P) (bn (o29 P) (bn (o67 P) bz bz) bz) (bn (o48 P) (bn (o89 P) bz bz) bz)) (bn (o18 P) (bn (o37 P) (bn (o78 P) bz bz) bz) (bn (o59 P) (bn (o97 P) bz bz) bz)))) (bn (boot_o_5 P) (bn (boot_o_9 P) (bn (o8 P) (bn (o24 P) (bn (o65 P) bz bz) bz) (bn (o46 P) (bn (o84 P) bz bz) bz)) (bn (o16 P) (bn (o35 P) (bn (o76 P) bz bz) bz) (bn (o54 P) (bn (o95 P) bz bz) bz))) (bn (o2 P) (bn (o12 P) (bn (o31 P) (bn (o69 P) bz bz) bz) (bn (o50 P) (bn (o91 P) bz bz) bz)) (bn (o20 P) (bn (o39 P) (bn (o80 P) bz bz) bz) (bn (o61 P) (bn (o99 P) bz bz) bz))))) (bn (boot_o_2 P) (bn (boot_o_4 P) (bn (boot_o_8 P) (bn (o7 P) (bn (o23 P) (bn (o64 P) bz bz) bz) (bn (o45 P) (bn (o83 P) bz bz) bz)) (bn (o15 P) (bn (o34 P) (bn (o75 P) bz bz) bz) (bn (o53 P) (bn (o94 P) bz bz) bz))) (bn (o87 P) (bn (o11 P) (bn (o30 P) (bn (o68 P) bz bz) bz) (bn (o49 P) (bn (o90 P) bz bz) bz)) (bn (o19 P) (bn (o38 P) (bn (o79 P) bz bz) bz) (bn (o60 P) (bn (o98 P) bz bz) bz)))) (bn (boot_o_6 P) (bn (boot_o_10 P) (bn (o9 P) (bn (o25 P) (bn (o66 P) bz bz) bz) (bn (o47 P) (bn (o85 P) bz bz) bz)) (bn (o17 P) (bn (o36 P) (bn (o77 P) bz bz) bz) (bn (o55 P) (bn (o96 P) bz bz) bz))) (bn (o3 P) (bn (o13 P) (bn (o32 P) (bn (o70 P) bz bz) bz) (bn (o51 P) (bn (o92 P) bz bz) bz)) (bn (o21 P) (bn (o40 P) (bn (o81 P) bz bz) bz) (bn (o62 P) (bn (o100 P) bz bz) bz))))))
theorem pc6 : Hd.Pc pp env T5 83 278 T6 95 294 214 [tp 7] ⟨13, 0, 14, 8⟩ ⟨15, 0, 16, 8⟩ := by
  intro w
  kernel_rfl
def o101 (P : Params) : Obj := ⟨.type "dict",none,.dict #[en P "__name__" 165 (.str "roomward.deeds" 310),en P "__doc__" 166 .none,en P "__package__" 167 .none,en P "__loader__" 168 (.builtin "__main__.__loader__#opaque"),en P "__spec__" 169 .none,en P "__annotations__" 170 (.ref 6),en P "__builtins__" 171 (.ref 4),en P "__file__" 173 (.str "/claim/cut.py" 172),en P "__cached__" 174 .none,en P "_wall" 193 (.ref 21),en P "WardError" 213 (.ref 31),en P "NoName" 229 (.ref 44),en P "NoDeed" 245 (.ref 56),en P "NoRoom" 261 (.ref 68),en P "TwiceTold" 277 (.ref 80),en P "TooMany" 293 (.ref 92),en P "NoRule" 309 (.ref 104),en P "LETTERS" 313 (.str "abcdefghijklmnopqrstuvwxyz" 312),en P "FIGURES" 315 (.str "0123456789" 314),en P "MOST_SIGNS" 317 (.int 8 316),en P "MOST_DEEDS" 319 (.int 12 318),en P "is_name" 325 (.ref 111),en P "refuse_names" 334 (.ref 118),en P "weights_of" 344 (.ref 125),en P "marks_of" 353 (.ref 132)] 25,#[]⟩
def o102 (P : Params) : Obj := ⟨.none,none,.fields #[.int 1 0,.int 0 0,.ref 20,.int 5 0,.int 0 0,.ref 27,.int 7 0,.int 0 0,.ref 40,.int 9 0,.int 0 0,.ref 52,.int 11 0,.int 0 0,.ref 64,.int 13 0,.int 0 0,.ref 76,.int 15 0,.int 0 0,.ref 88,.int 17 0,.int 0 0,.ref 100,.int 24 0,.int 0 0,.ref 110,.int 29 0,.int 0 0,.ref 117,.int 39 0,.int 0 0,.ref 124,.int 46 0,.int 0 0,.ref 131],#[]⟩
def o103 (P : Params) : Obj := ⟨.type "type",none,.cls ⟨"WardError",[.type "ValueError"],[.ref 31,.type "ValueError",.type "Exception",.type "BaseException",.type "object"],30,"WardError",true,[],[.ref 44,.ref 56,.ref 68,.ref 80,.ref 92,.ref 104],false,none,false⟩,#[(some (.ref 22)),none,(some (.str "WardError" 196)),(some (.str "WardError" 204)),(some (.builtin "ValueError.__new__")),(some (.bool true))]⟩
def o104 (P : Params) : Obj := ⟨.type "tuple",none,.seq #[.ref 31] 0,#[]⟩
def o105 (P : Params) : Obj := ⟨.type "builtin_function_or_method",none,.fields #[.builtin "type.__prepare__",.type "type"],#[]⟩
def o106 (P : Params) : Obj := ⟨.type "dict",none,.dict #[en P "__module__" 301 (.str "roomward.errors" 194),en P "__qualname__" 303 (.str "NoRule" 302),en P "__firstlineno__" 305 (.int 17 304),en P "__static_attributes__" 306 (.ref 102)] 4,#[]⟩
def o107 (P : Params) : Obj := ⟨.type "tuple",none,.seq #[] 0,#[]⟩
def o108 (P : Params) : Obj := ⟨.none,none,.fields #[],#[]⟩
def o109 (P : Params) : Obj := ⟨.type "code",none,.fields #[.str "NoRule" 296,.str "NoRule" 297,.str "/claim/cut.py" 298,.int 17 0,.int 0 0,.int 0 0,.int 0 0,.int 0 0,.ref 98,.bool false,.int 181 0,.ref 99,.none,.none,.none,.none,.int 299 0,.int 17 0,.str "/claim/cut.py" 300],#[]⟩
def o110 (P : Params) : Obj := ⟨.type "frame",none,.plain,#[(some (.ref 100)),(some (.ref 3)),(some (.ref 97)),none,(some (.str "roomward.errors" 194)),none,(some (.ref 0))]⟩
def o111 (P : Params) : Obj := ⟨.type "tuple",none,.seq #[] 0,#[]⟩
def o112 (P : Params) : Obj := ⟨.type "dict",none,.dict #[en P "__module__" 301 (.str "roomward.errors" 194),en P "__firstlineno__" 305 (.int 17 304),en P "__static_attributes__" 306 (.ref 102),en P "__doc__" 307 .none] 2,#[]⟩
def o113 (P : Params) : Obj := ⟨.type "type",none,.cls ⟨"NoRule",[.ref 31],[.ref 104,.ref 31,.type "ValueError",.type "Exception",.type "BaseException",.type "object"],103,"NoRule",true,[],[],false,none,false⟩,#[(some (.ref 95)),none,(some (.str "NoRule" 294)),(some (.str "NoRule" 302)),(some (.builtin "ValueError.__new__")),(some (.bool true))]⟩
def o114 (P : Params) : Obj := ⟨.type "super",none,.fields #[.ref 104,.ref 104,.ref 104],#[]⟩
def o115 (P : Params) : Obj := ⟨.type "builtin_function_or_method",none,.fields #[.builtin "object.__init_subclass__",.ref 104],#[]⟩
def o116 (P : Params) : Obj := ⟨.type "tuple",none,.seq #[] 0,#[]⟩
def o117 (P : Params) : Obj := ⟨.none,none,.fields #[],#[]⟩
def o118 (P : Params) : Obj := ⟨.none,none,.func ⟨"is_name","is_name",defArgs (tp 14),.stmts (defBody (tp 14)),defScope (tp 14),0,[],.none,.none,.none,.none,none,.none,.none,0⟩,#[]⟩
def o119 (P : Params) : Obj := ⟨.type "code",none,.fields #[.str "is_name" 320,.str "is_name" 321,.str "/claim/cut.py" 322,.int 24 0,.int 1 0,.int 0 0,.int 0 0,.int 3 0,.ref 107,.bool true,.int 181 0,.ref 108,.none,.none,.none,.ref 109,.int 323 0,.int 24 0,.str "/claim/cut.py" 324],#[]⟩
def o120 (P : Params) : Obj := ⟨.type "function",none,.func ⟨"is_name","is_name",defArgs (tp 14),.stmts (defBody (tp 14)),defScope (tp 14),3,[],.none,.none,.none,.str "roomward.deeds" 310,none,.ref 110,.none,0⟩,#[]⟩
def o121 (P : Params) : Obj := ⟨.type "tuple",none,.seq #[] 0,#[]⟩
def o122 (P : Params) : Obj := ⟨.none,none,.fields #[],#[]⟩
def o123 (P : Params) : Obj := ⟨.type "tuple",none,.seq #[.str "names" 329,.str "ahead" 330,.str "name" 331] 0,#[]⟩
def o124 (P : Params) : Obj := ⟨.type "tuple",none,.seq #[] 0,#[]⟩
def o125 (P : Params) : Obj := ⟨.none,none,.func ⟨"refuse_names","refuse_names",defArgs (tp 15),.stmts (defBody (tp 15)),defScope (tp 15),0,[],.none,.none,.none,.none,none,.none,.none,0⟩,#[]⟩
def o126 (P : Params) : Obj := ⟨.type "code",none,.fields #[.str "refuse_names" 326,.str "refuse_names" 327,.str "/claim/cut.py" 328,.int 29 0,.int 1 0,.int 0 0,.int 0 0,.int 3 0,.ref 112,.bool true,.int 181 0,.ref 113,.none,.ref 114,.ref 115,.ref 116,.int 332 0,.int 29 0,.str "/claim/cut.py" 333],#[]⟩
def o127 (P : Params) : Obj := ⟨.type "function",none,.func ⟨"refuse_names","refuse_names",defArgs (tp 15),.stmts (defBody (tp 15)),defScope (tp 15),3,[],.none,.none,.none,.str "roomward.deeds" 310,none,.ref 117,.none,0⟩,#[]⟩
def o128 (P : Params) : Obj := ⟨.type "tuple",none,.seq #[] 0,#[]⟩
def o129 (P : Params) : Obj := ⟨.none,none,.fields #[],#[]⟩
def o130 (P : Params) : Obj := ⟨.type "tuple",none,.seq #[.str "names" 338,.str "weights" 339,.str "weight" 340,.str "name" 341] 0,#[]⟩
def o131 (P : Params) : Obj := ⟨.type "tuple",none,.seq #[] 0,#[]⟩
def o132 (P : Params) : Obj := ⟨.none,none,.func ⟨"weights_of","weights_of",defArgs (tp 16),.stmts (defBody (tp 16)),defScope (tp 16),0,[],.none,.none,.none,.none,none,.none,.none,0⟩,#[]⟩
def o133 (P : Params) : Obj := ⟨.type "code",none,.fields #[.str "weights_of" 335,.str "weights_of" 336,.str "/claim/cut.py" 337,.int 39 0,.int 1 0,.int 0 0,.int 0 0,.int 3 0,.ref 119,.bool true,.int 181 0,.ref 120,.none,.ref 121,.ref 122,.ref 123,.int 342 0,.int 39 0,.str "/claim/cut.py" 343],#[]⟩
def o134 (P : Params) : Obj := ⟨.type "function",none,.func ⟨"weights_of","weights_of",defArgs (tp 16),.stmts (defBody (tp 16)),defScope (tp 16),3,[],.none,.none,.none,.str "roomward.deeds" 310,none,.ref 124,.none,0⟩,#[]⟩
def o135 (P : Params) : Obj := ⟨.type "tuple",none,.seq #[] 0,#[]⟩
def o136 (P : Params) : Obj := ⟨.none,none,.fields #[],#[]⟩
def o137 (P : Params) : Obj := ⟨.type "tuple",none,.seq #[.str "names" 348,.str "marks" 349,.str "name" 350] 0,#[]⟩
def o138 (P : Params) : Obj := ⟨.type "tuple",none,.seq #[] 0,#[]⟩
def o139 (P : Params) : Obj := ⟨.none,none,.func ⟨"marks_of","marks_of",defArgs (tp 17),.stmts (defBody (tp 17)),defScope (tp 17),0,[],.none,.none,.none,.none,none,.none,.none,0⟩,#[]⟩
def o140 (P : Params) : Obj := ⟨.type "code",none,.fields #[.str "marks_of" 345,.str "marks_of" 346,.str "/claim/cut.py" 347,.int 46 0,.int 1 0,.int 0 0,.int 0 0,.int 3 0,.ref 126,.bool true,.int 181 0,.ref 127,.none,.ref 128,.ref 129,.ref 130,.int 351 0,.int 46 0,.str "/claim/cut.py" 352],#[]⟩
def o141 (P : Params) : Obj := ⟨.type "function",none,.func ⟨"marks_of","marks_of",defArgs (tp 17),.stmts (defBody (tp 17)),defScope (tp 17),3,[],.none,.none,.none,.str "roomward.deeds" 310,none,.ref 131,.none,0⟩,#[]⟩
noncomputable def T7 (P : Params) : BT := (bn (boot_o_0 P) (bn (boot_o_1 P) (bn (o101 P) (bn (boot_o_7 P) (bn (o6 P) (bn (o103 P) (bn (o63 P) (bn (o136 P) bz bz) bz) (bn (o104 P) bz bz)) (bn (o44 P) (bn (o82 P) bz bz) (bn (o120 P) bz bz))) (bn (o14 P) (bn (o33 P) (bn (o74 P) bz bz) (bn (o112 P) bz bz)) (bn (o52 P) (bn (o93 P) bz bz) (bn (o128 P) bz bz)))) (bn (o0 P) (bn (o10 P) (bn (o29 P) (bn (o67 P) (bn (o140 P) bz bz) bz) (bn (o108 P) bz bz)) (bn (o48 P) (bn (o89 P) bz bz) (bn (o124 P) bz bz))) (bn (o18 P) (bn (o37 P) (bn (o78 P) bz bz) (bn (o116 P) bz bz)) (bn (o59 P) (bn (o97 P) bz bz) (bn (o132 P) bz bz))))) (bn (boot_o_5 P) (bn (boot_o_9 P) (bn (o8 P) (bn (o24 P) (bn (o65 P) (bn (o138 P) bz bz) bz) (bn (o106 P) bz bz)) (bn (o46 P) (bn (o84 P) bz bz) (bn (o122 P) bz bz))) (bn (o16 P) (bn (o35 P) (bn (o76 P) bz bz) (bn (o114 P) bz bz)) (bn (o54 P) (bn (o95 P) bz bz) (bn (o130 P) bz bz)))) (bn (o2 P) (bn (o12 P) (bn (o31 P) (bn (o69 P) bz bz) (bn (o110 P) bz bz)) (bn (o50 P) (bn (o91 P) bz bz) (bn (o126 P) bz bz))) (bn (o20 P) (bn (o39 P) (bn (o80 P) bz bz) (bn (o118 P) bz bz)) (bn (o61 P) (bn (o99 P) bz bz) (bn (o134 P) bz bz)))))) (bn (boot_o_2 P) (bn (boot_o_4 P) (bn (boot_o_8 P) (bn (o7 P) (bn (o23 P) (bn (o64 P) (bn (o137 P) bz bz) bz) (bn (o105 P) bz bz)) (bn (o45 P) (bn (o83 P) bz bz) (bn (o121 P) bz bz))) (bn (o15 P) (bn (o34 P) (bn (o75 P) bz bz) (bn (o113 P) bz bz)) (bn (o53 P) (bn (o94 P) bz bz) (bn (o129 P) bz bz)))) (bn (o102 P) (bn (o11 P) (bn (o30 P) (bn (o68 P) (bn (o141 P) bz bz) bz) (bn (o109 P) bz bz)) (bn (o49 P) (bn (o90 P) bz bz) (bn (o125 P) bz bz))) (bn (o19 P) (bn (o38 P) (bn (o79 P) bz bz) (bn (o117 P) bz bz)) (bn (o60 P) (bn (o98 P) bz bz) (bn (o133 P) bz bz))))) (bn (boot_o_6 P) (bn (boot_o_10 P) (bn (o9 P) (bn (o25 P) (bn (o66 P) (bn (o139 P) bz bz) bz) (bn (o107 P) bz bz)) (bn (o47 P) (bn (o85 P) bz bz) (bn (o123 P) bz bz))) (bn (o17 P) (bn (o36 P) (bn (o77 P) bz bz) (bn (o115 P) bz bz)) (bn (o55 P) (bn (o96 P) bz bz) (bn (o131 P) bz bz)))) (bn (o3 P) (bn (o13 P) (bn (o32 P) (bn (o70 P) bz bz) (bn (o111 P) bz bz)) (bn (o51 P) (bn (o92 P) bz bz) (bn (o127 P) bz bz))) (bn (o21 P) (bn (o40 P) (bn (o81 P) bz bz) (bn (o119 P) bz bz)) (bn (o62 P) (bn (o100 P) bz bz) (bn (o135 P) bz bz)))))))
theorem pc7 : Hd.Pc pp env T6 95 294 T7 133 354 379 [tp 8, tp 9, tp 10, tp 11, tp 12, tp 13, tp 14, tp 15, tp 16, tp 17] ⟨15, 0, 16, 8⟩ ⟨46, 0, 50, 16⟩ := by
  intro w
  kernel_rfl
def o142 (P : Params) : Obj := ⟨.type "dict",none,.dict #[en P "__name__" 165 (.str "roomward.deeds" 310),en P "__doc__" 166 .none,en P "__package__" 167 .none,en P "__loader__" 168 (.builtin "__main__.__loader__#opaque"),en P "__spec__" 169 .none,en P "__annotations__" 170 (.ref 6),en P "__builtins__" 171 (.ref 4),en P "__file__" 173 (.str "/claim/cut.py" 172),en P "__cached__" 174 .none,en P "_wall" 193 (.ref 21),en P "WardError" 213 (.ref 31),en P "NoName" 229 (.ref 44),en P "NoDeed" 245 (.ref 56),en P "NoRoom" 261 (.ref 68),en P "TwiceTold" 277 (.ref 80),en P "TooMany" 293 (.ref 92),en P "NoRule" 309 (.ref 104),en P "LETTERS" 313 (.str "abcdefghijklmnopqrstuvwxyz" 312),en P "FIGURES" 315 (.str "0123456789" 314),en P "MOST_SIGNS" 317 (.int 8 316),en P "MOST_DEEDS" 319 (.int 12 318),en P "is_name" 325 (.ref 111),en P "refuse_names" 334 (.ref 118),en P "weights_of" 344 (.ref 125),en P "marks_of" 353 (.ref 132),en P "Deeds" 440 (.ref 199)] 26,#[]⟩
def o143 (P : Params) : Obj := ⟨.none,none,.fields #[.int 1 0,.int 0 0,.ref 20,.int 5 0,.int 0 0,.ref 27,.int 7 0,.int 0 0,.ref 40,.int 9 0,.int 0 0,.ref 52,.int 11 0,.int 0 0,.ref 64,.int 13 0,.int 0 0,.ref 76,.int 15 0,.int 0 0,.ref 88,.int 17 0,.int 0 0,.ref 100,.int 24 0,.int 0 0,.ref 110,.int 29 0,.int 0 0,.ref 117,.int 39 0,.int 0 0,.ref 124,.int 46 0,.int 0 0,.ref 131,.int 51 0,.int 0 0,.ref 138],#[]⟩
def o144 (P : Params) : Obj := ⟨.type "tuple",none,.seq #[] 0,#[]⟩
def o145 (P : Params) : Obj := ⟨.type "builtin_function_or_method",none,.fields #[.builtin "type.__prepare__",.type "type"],#[]⟩
def o146 (P : Params) : Obj := ⟨.type "dict",none,.dict #[en P "__module__" 361 (.str "roomward.deeds" 310),en P "__qualname__" 363 (.str "Deeds" 362),en P "__firstlineno__" 365 (.int 51 364),en P "__init__" 375 (.ref 147),en P "names" 382 (.ref 154),en P "free" 389 (.ref 161),en P "has" 397 (.ref 168),en P "require" 406 (.ref 175),en P "is_free" 414 (.ref 182),en P "bits" 422 (.ref 189),en P "names_of" 430 (.ref 196),en P "__static_attributes__" 433 (.ref 197)] 12,#[]⟩
def o147 (P : Params) : Obj := ⟨.type "tuple",none,.seq #[] 0,#[]⟩
def o148 (P : Params) : Obj := ⟨.none,none,.fields #[.int 53 0,.int 4 0,.ref 146,.int 60 0,.int 4 0,.ref 153,.int 63 0,.int 4 0,.ref 160,.int 66 0,.int 4 0,.ref 167,.int 69 0,.int 4 0,.ref 174,.int 74 0,.int 4 0,.ref 181,.int 77 0,.int 4 0,.ref 188,.int 80 0,.int 4 0,.ref 195],#[]⟩
def o149 (P : Params) : Obj := ⟨.type "code",none,.fields #[.str "Deeds" 356,.str "Deeds" 357,.str "/claim/cut.py" 358,.int 51 0,.int 0 0,.int 0 0,.int 0 0,.int 0 0,.ref 136,.bool false,.int 181 0,.ref 137,.none,.none,.none,.none,.int 359 0,.int 51 0,.str "/claim/cut.py" 360],#[]⟩
def o150 (P : Params) : Obj := ⟨.type "frame",none,.plain,#[(some (.ref 138)),(some (.ref 3)),(some (.ref 135)),none,(some (.str "roomward.deeds" 310)),none,(some (.ref 0))]⟩
def o151 (P : Params) : Obj := ⟨.type "tuple",none,.seq #[.none] 0,#[]⟩
def o152 (P : Params) : Obj := ⟨.type "tuple",none,.seq #[] 0,#[]⟩
def o153 (P : Params) : Obj := ⟨.none,none,.fields #[],#[]⟩
def o154 (P : Params) : Obj := ⟨.type "tuple",none,.seq #[.str "self" 369,.str "names" 370,.str "free" 371,.str "free_names" 372] 0,#[]⟩
def o155 (P : Params) : Obj := ⟨.type "tuple",none,.seq #[] 0,#[]⟩
def o156 (P : Params) : Obj := ⟨.none,none,.func ⟨"__init__","Deeds.__init__",defArgs (inClass (tp 18) 0),.stmts (defBody (inClass (tp 18) 0)),defScope (inClass (tp 18) 0),0,[],.none,.none,.none,.none,none,.none,.none,0⟩,#[]⟩
def o157 (P : Params) : Obj := ⟨.type "code",none,.fields #[.str "__init__" 366,.str "Deeds.__init__" 367,.str "/claim/cut.py" 368,.int 53 0,.int 3 0,.int 0 0,.int 0 0,.int 3 0,.ref 141,.bool true,.int 181 0,.ref 142,.none,.ref 143,.ref 144,.ref 145,.int 373 0,.int 53 0,.str "/claim/cut.py" 374],#[]⟩
def o158 (P : Params) : Obj := ⟨.type "function",none,.func ⟨"__init__","Deeds.__init__",defArgs (inClass (tp 18) 0),.stmts (defBody (inClass (tp 18) 0)),defScope (inClass (tp 18) 0),3,[],.ref 140,.none,.none,.str "roomward.deeds" 310,none,.ref 146,.none,0⟩,#[]⟩
def o159 (P : Params) : Obj := ⟨.type "tuple",none,.seq #[] 0,#[]⟩
def o160 (P : Params) : Obj := ⟨.none,none,.fields #[],#[]⟩
def o161 (P : Params) : Obj := ⟨.type "tuple",none,.seq #[.str "self" 379] 0,#[]⟩
def o162 (P : Params) : Obj := ⟨.type "tuple",none,.seq #[] 0,#[]⟩
def o163 (P : Params) : Obj := ⟨.none,none,.func ⟨"names","Deeds.names",defArgs (inClass (tp 18) 1),.stmts (defBody (inClass (tp 18) 1)),defScope (inClass (tp 18) 1),0,[],.none,.none,.none,.none,none,.none,.none,0⟩,#[]⟩
def o164 (P : Params) : Obj := ⟨.type "code",none,.fields #[.str "names" 376,.str "Deeds.names" 377,.str "/claim/cut.py" 378,.int 60 0,.int 1 0,.int 0 0,.int 0 0,.int 3 0,.ref 148,.bool true,.int 181 0,.ref 149,.none,.ref 150,.ref 151,.ref 152,.int 380 0,.int 60 0,.str "/claim/cut.py" 381],#[]⟩
def o165 (P : Params) : Obj := ⟨.type "function",none,.func ⟨"names","Deeds.names",defArgs (inClass (tp 18) 1),.stmts (defBody (inClass (tp 18) 1)),defScope (inClass (tp 18) 1),3,[],.none,.none,.none,.str "roomward.deeds" 310,none,.ref 153,.none,0⟩,#[]⟩
def o166 (P : Params) : Obj := ⟨.type "tuple",none,.seq #[] 0,#[]⟩
def o167 (P : Params) : Obj := ⟨.none,none,.fields #[],#[]⟩
def o168 (P : Params) : Obj := ⟨.type "tuple",none,.seq #[.str "self" 386] 0,#[]⟩
def o169 (P : Params) : Obj := ⟨.type "tuple",none,.seq #[] 0,#[]⟩
def o170 (P : Params) : Obj := ⟨.none,none,.func ⟨"free","Deeds.free",defArgs (inClass (tp 18) 2),.stmts (defBody (inClass (tp 18) 2)),defScope (inClass (tp 18) 2),0,[],.none,.none,.none,.none,none,.none,.none,0⟩,#[]⟩
def o171 (P : Params) : Obj := ⟨.type "code",none,.fields #[.str "free" 383,.str "Deeds.free" 384,.str "/claim/cut.py" 385,.int 63 0,.int 1 0,.int 0 0,.int 0 0,.int 3 0,.ref 155,.bool true,.int 181 0,.ref 156,.none,.ref 157,.ref 158,.ref 159,.int 387 0,.int 63 0,.str "/claim/cut.py" 388],#[]⟩
def o172 (P : Params) : Obj := ⟨.type "function",none,.func ⟨"free","Deeds.free",defArgs (inClass (tp 18) 2),.stmts (defBody (inClass (tp 18) 2)),defScope (inClass (tp 18) 2),3,[],.none,.none,.none,.str "roomward.deeds" 310,none,.ref 160,.none,0⟩,#[]⟩
def o173 (P : Params) : Obj := ⟨.type "tuple",none,.seq #[] 0,#[]⟩
def o174 (P : Params) : Obj := ⟨.none,none,.fields #[],#[]⟩
def o175 (P : Params) : Obj := ⟨.type "tuple",none,.seq #[.str "self" 393,.str "thing" 394] 0,#[]⟩
def o176 (P : Params) : Obj := ⟨.type "tuple",none,.seq #[] 0,#[]⟩
def o177 (P : Params) : Obj := ⟨.none,none,.func ⟨"has","Deeds.has",defArgs (inClass (tp 18) 3),.stmts (defBody (inClass (tp 18) 3)),defScope (inClass (tp 18) 3),0,[],.none,.none,.none,.none,none,.none,.none,0⟩,#[]⟩
def o178 (P : Params) : Obj := ⟨.type "code",none,.fields #[.str "has" 390,.str "Deeds.has" 391,.str "/claim/cut.py" 392,.int 66 0,.int 2 0,.int 0 0,.int 0 0,.int 3 0,.ref 162,.bool true,.int 181 0,.ref 163,.none,.ref 164,.ref 165,.ref 166,.int 395 0,.int 66 0,.str "/claim/cut.py" 396],#[]⟩
def o179 (P : Params) : Obj := ⟨.type "function",none,.func ⟨"has","Deeds.has",defArgs (inClass (tp 18) 3),.stmts (defBody (inClass (tp 18) 3)),defScope (inClass (tp 18) 3),3,[],.none,.none,.none,.str "roomward.deeds" 310,none,.ref 167,.none,0⟩,#[]⟩
def o180 (P : Params) : Obj := ⟨.type "tuple",none,.seq #[] 0,#[]⟩
def o181 (P : Params) : Obj := ⟨.none,none,.fields #[],#[]⟩
def o182 (P : Params) : Obj := ⟨.type "tuple",none,.seq #[.str "self" 401,.str "row" 402,.str "deed" 403] 0,#[]⟩
def o183 (P : Params) : Obj := ⟨.type "tuple",none,.seq #[] 0,#[]⟩
def o184 (P : Params) : Obj := ⟨.none,none,.func ⟨"require","Deeds.require",defArgs (inClass (tp 18) 4),.stmts (defBody (inClass (tp 18) 4)),defScope (inClass (tp 18) 4),0,[],.none,.none,.none,.none,none,.none,.none,0⟩,#[]⟩
def o185 (P : Params) : Obj := ⟨.type "code",none,.fields #[.str "require" 398,.str "Deeds.require" 399,.str "/claim/cut.py" 400,.int 69 0,.int 2 0,.int 0 0,.int 0 0,.int 3 0,.ref 169,.bool true,.int 181 0,.ref 170,.none,.ref 171,.ref 172,.ref 173,.int 404 0,.int 69 0,.str "/claim/cut.py" 405],#[]⟩
def o186 (P : Params) : Obj := ⟨.type "function",none,.func ⟨"require","Deeds.require",defArgs (inClass (tp 18) 4),.stmts (defBody (inClass (tp 18) 4)),defScope (inClass (tp 18) 4),3,[],.none,.none,.none,.str "roomward.deeds" 310,none,.ref 174,.none,0⟩,#[]⟩
def o187 (P : Params) : Obj := ⟨.type "tuple",none,.seq #[] 0,#[]⟩
def o188 (P : Params) : Obj := ⟨.none,none,.fields #[],#[]⟩
def o189 (P : Params) : Obj := ⟨.type "tuple",none,.seq #[.str "self" 410,.str "deed" 411] 0,#[]⟩
def o190 (P : Params) : Obj := ⟨.type "tuple",none,.seq #[] 0,#[]⟩
def o191 (P : Params) : Obj := ⟨.none,none,.func ⟨"is_free","Deeds.is_free",defArgs (inClass (tp 18) 5),.stmts (defBody (inClass (tp 18) 5)),defScope (inClass (tp 18) 5),0,[],.none,.none,.none,.none,none,.none,.none,0⟩,#[]⟩
def o192 (P : Params) : Obj := ⟨.type "code",none,.fields #[.str "is_free" 407,.str "Deeds.is_free" 408,.str "/claim/cut.py" 409,.int 74 0,.int 2 0,.int 0 0,.int 0 0,.int 3 0,.ref 176,.bool true,.int 181 0,.ref 177,.none,.ref 178,.ref 179,.ref 180,.int 412 0,.int 74 0,.str "/claim/cut.py" 413],#[]⟩
def o193 (P : Params) : Obj := ⟨.type "function",none,.func ⟨"is_free","Deeds.is_free",defArgs (inClass (tp 18) 5),.stmts (defBody (inClass (tp 18) 5)),defScope (inClass (tp 18) 5),3,[],.none,.none,.none,.str "roomward.deeds" 310,none,.ref 181,.none,0⟩,#[]⟩
def o194 (P : Params) : Obj := ⟨.type "tuple",none,.seq #[] 0,#[]⟩
def o195 (P : Params) : Obj := ⟨.none,none,.fields #[],#[]⟩
def o196 (P : Params) : Obj := ⟨.type "tuple",none,.seq #[.str "self" 418,.str "names" 419] 0,#[]⟩
def o197 (P : Params) : Obj := ⟨.type "tuple",none,.seq #[] 0,#[]⟩
def o198 (P : Params) : Obj := ⟨.none,none,.func ⟨"bits","Deeds.bits",defArgs (inClass (tp 18) 6),.stmts (defBody (inClass (tp 18) 6)),defScope (inClass (tp 18) 6),0,[],.none,.none,.none,.none,none,.none,.none,0⟩,#[]⟩
def o199 (P : Params) : Obj := ⟨.type "code",none,.fields #[.str "bits" 415,.str "Deeds.bits" 416,.str "/claim/cut.py" 417,.int 77 0,.int 2 0,.int 0 0,.int 0 0,.int 3 0,.ref 183,.bool true,.int 181 0,.ref 184,.none,.ref 185,.ref 186,.ref 187,.int 420 0,.int 77 0,.str "/claim/cut.py" 421],#[]⟩
def o200 (P : Params) : Obj := ⟨.type "function",none,.func ⟨"bits","Deeds.bits",defArgs (inClass (tp 18) 6),.stmts (defBody (inClass (tp 18) 6)),defScope (inClass (tp 18) 6),3,[],.none,.none,.none,.str "roomward.deeds" 310,none,.ref 188,.none,0⟩,#[]⟩
def o201 (P : Params) : Obj := ⟨.type "tuple",none,.seq #[] 0,#[]⟩
def o202 (P : Params) : Obj := ⟨.none,none,.fields #[],#[]⟩
def o203 (P : Params) : Obj := ⟨.type "tuple",none,.seq #[.str "self" 426,.str "bits" 427] 0,#[]⟩
def o204 (P : Params) : Obj := ⟨.type "tuple",none,.seq #[] 0,#[]⟩
def o205 (P : Params) : Obj := ⟨.none,none,.func ⟨"names_of","Deeds.names_of",defArgs (inClass (tp 18) 7),.stmts (defBody (inClass (tp 18) 7)),defScope (inClass (tp 18) 7),0,[],.none,.none,.none,.none,none,.none,.none,0⟩,#[]⟩
def o206 (P : Params) : Obj := ⟨.type "code",none,.fields #[.str "names_of" 423,.str "Deeds.names_of" 424,.str "/claim/cut.py" 425,.int 80 0,.int 2 0,.int 0 0,.int 0 0,.int 3 0,.ref 190,.bool true,.int 181 0,.ref 191,.none,.ref 192,.ref 193,.ref 194,.int 428 0,.int 80 0,.str "/claim/cut.py" 429],#[]⟩
def o207 (P : Params) : Obj := ⟨.type "function",none,.func ⟨"names_of","Deeds.names_of",defArgs (inClass (tp 18) 7),.stmts (defBody (inClass (tp 18) 7)),defScope (inClass (tp 18) 7),3,[],.none,.none,.none,.str "roomward.deeds" 310,none,.ref 195,.none,0⟩,#[]⟩
def o208 (P : Params) : Obj := ⟨.type "tuple",none,.seq #[.str "free_marks" 431,.str "weights" 432] 0,#[]⟩
def o209 (P : Params) : Obj := ⟨.type "dict",none,.dict #[en P "__module__" 361 (.str "roomward.deeds" 310),en P "__firstlineno__" 365 (.int 51 364),en P "__init__" 375 (.ref 147),en P "names" 382 (.ref 154),en P "free" 389 (.ref 161),en P "has" 397 (.ref 168),en P "require" 406 (.ref 175),en P "is_free" 414 (.ref 182),en P "bits" 422 (.ref 189),en P "names_of" 430 (.ref 196),en P "__static_attributes__" 433 (.ref 197),en P "__dict__" 435 (.ref 200),en P "__weakref__" 437 (.ref 201),en P "__doc__" 438 .none] 4,#[]⟩
def o210 (P : Params) : Obj := ⟨.type "type",none,.cls ⟨"Deeds",[.type "object"],[.ref 199,.type "object"],198,"Deeds",true,[],[],false,none,false⟩,#[none,none,(some (.str "Deeds" 354)),(some (.str "Deeds" 362)),(some (.builtin "object.__new__")),(some (.bool true))]⟩
def o211 (P : Params) : Obj := ⟨.type "getset_descriptor",none,.fields #[.str "__dict__" 434,.ref 199,.builtin "function.__dict__",.builtin "function.__dict__#set"],#[]⟩
def o212 (P : Params) : Obj := ⟨.type "getset_descriptor",none,.fields #[.str "__weakref__" 436,.ref 199,.builtin "ExceptionGroup.__weakref__",.none],#[]⟩
def o213 (P : Params) : Obj := ⟨.type "super",none,.fields #[.ref 199,.ref 199,.ref 199],#[]⟩
def o214 (P : Params) : Obj := ⟨.type "builtin_function_or_method",none,.fields #[.builtin "object.__init_subclass__",.ref 199],#[]⟩
noncomputable def T8 (P : Params) : BT := (bn (boot_o_0 P) (bn (boot_o_1 P) (bn (o142 P) (bn (boot_o_7 P) (bn (o6 P) (bn (o103 P) (bn (o63 P) (bn (o136 P) bz bz) (bn (o202 P) bz bz)) (bn (o104 P) (bn (o170 P) bz bz) bz)) (bn (o44 P) (bn (o82 P) (bn (o154 P) bz bz) bz) (bn (o120 P) (bn (o186 P) bz bz) bz))) (bn (o14 P) (bn (o33 P) (bn (o74 P) (bn (o146 P) bz bz) (bn (o210 P) bz bz)) (bn (o112 P) (bn (o178 P) bz bz) bz)) (bn (o52 P) (bn (o93 P) (bn (o162 P) bz bz) bz) (bn (o128 P) (bn (o194 P) bz bz) bz)))) (bn (o0 P) (bn (o10 P) (bn (o29 P) (bn (o67 P) (bn (o140 P) bz bz) (bn (o206 P) bz bz)) (bn (o108 P) (bn (o174 P) bz bz) bz)) (bn (o48 P) (bn (o89 P) (bn (o158 P) bz bz) bz) (bn (o124 P) (bn (o190 P) bz bz) bz))) (bn (o18 P) (bn (o37 P) (bn (o78 P) (bn (o150 P) bz bz) (bn (o214 P) bz bz)) (bn (o116 P) (bn (o182 P) bz bz) bz)) (bn (o59 P) (bn (o97 P) (bn (o166 P) bz bz) bz) (bn (o132 P) (bn (o198 P) bz bz) bz))))) (bn (boot_o_5 P) (bn (boot_o_9 P) (bn (o8 P) (bn (o24 P) (bn (o65 P) (bn (o138 P) bz bz) (bn (o204 P) bz bz)) (bn (o106 P) (bn (o172 P) bz bz) bz)) (bn (o46 P) (bn (o84 P) (bn (o156 P) bz bz) bz) (bn (o122 P) (bn (o188 P) bz bz) bz))) (bn (o16 P) (bn (o35 P) (bn (o76 P) (bn (o148 P) bz bz) (bn (o212 P) bz bz)) (bn (o114 P) (bn (o180 P) bz bz) bz)) (bn (o54 P) (bn (o95 P) (bn (o164 P) bz bz) bz) (bn (o130 P) (bn (o196 P) bz bz) bz)))) (bn (o2 P) (bn (o12 P) (bn (o31 P) (bn (o69 P) (bn (o144 P) bz bz) (bn (o208 P) bz bz)) (bn (o110 P) (bn (o176 P) bz bz) bz)) (bn (o50 P) (bn (o91 P) (bn (o160 P) bz bz) bz) (bn (o126 P) (bn (o192 P) bz bz) bz))) (bn (o20 P) (bn (o39 P) (bn (o80 P) (bn (o152 P) bz bz) bz) (bn (o118 P) (bn (o184 P) bz bz) bz)) (bn (o61 P) (bn (o99 P) (bn (o168 P) bz bz) bz) (bn (o134 P) (bn (o200 P) bz bz) bz)))))) (bn (boot_o_2 P) (bn (boot_o_4 P) (bn (boot_o_8 P) (bn (o7 P) (bn (o23 P) (bn (o64 P) (bn (o137 P) bz bz) (bn (o203 P) bz bz)) (bn (o105 P) (bn (o171 P) bz bz) bz)) (bn (o45 P) (bn (o83 P) (bn (o155 P) bz bz) bz) (bn (o121 P) (bn (o187 P) bz bz) bz))) (bn (o15 P) (bn (o34 P) (bn (o75 P) (bn (o147 P) bz bz) (bn (o211 P) bz bz)) (bn (o113 P) (bn (o179 P) bz bz) bz)) (bn (o53 P) (bn (o94 P) (bn (o163 P) bz bz) bz) (bn (o129 P) (bn (o195 P) bz bz) bz)))) (bn (o143 P) (bn (o11 P) (bn (o30 P) (bn (o68 P) (bn (o141 P) bz bz) (bn (o207 P) bz bz)) (bn (o109 P) (bn (o175 P) bz bz) bz)) (bn (o49 P) (bn (o90 P) (bn (o159 P) bz bz) bz) (bn (o125 P) (bn (o191 P) bz bz) bz))) (bn (o19 P) (bn (o38 P) (bn (o79 P) (bn (o151 P) bz bz) bz) (bn (o117 P) (bn (o183 P) bz bz) bz)) (bn (o60 P) (bn (o98 P) (bn (o167 P) bz bz) bz) (bn (o133 P) (bn (o199 P) bz bz) bz))))) (bn (boot_o_6 P) (bn (boot_o_10 P) (bn (o9 P) (bn (o25 P) (bn (o66 P) (bn (o139 P) bz bz) (bn (o205 P) bz bz)) (bn (o107 P) (bn (o173 P) bz bz) bz)) (bn (o47 P) (bn (o85 P) (bn (o157 P) bz bz) bz) (bn (o123 P) (bn (o189 P) bz bz) bz))) (bn (o17 P) (bn (o36 P) (bn (o77 P) (bn (o149 P) bz bz) (bn (o213 P) bz bz)) (bn (o115 P) (bn (o181 P) bz bz) bz)) (bn (o55 P) (bn (o96 P) (bn (o165 P) bz bz) bz) (bn (o131 P) (bn (o197 P) bz bz) bz)))) (bn (o3 P) (bn (o13 P) (bn (o32 P) (bn (o70 P) (bn (o145 P) bz bz) (bn (o209 P) bz bz)) (bn (o111 P) (bn (o177 P) bz bz) bz)) (bn (o51 P) (bn (o92 P) (bn (o161 P) bz bz) bz) (bn (o127 P) (bn (o193 P) bz bz) bz))) (bn (o21 P) (bn (o40 P) (bn (o81 P) (bn (o153 P) bz bz) bz) (bn (o119 P) (bn (o185 P) bz bz) bz)) (bn (o62 P) (bn (o100 P) (bn (o169 P) bz bz) bz) (bn (o135 P) (bn (o201 P) bz bz) bz)))))))
theorem pc8 : Hd.Pc pp env T7 133 354 T8 204 441 450 [tp 18] ⟨46, 0, 50, 16⟩ ⟨51, 0, 81, 16⟩ := by
  intro w
  kernel_rfl
def o215 (P : Params) : Obj := ⟨.type "dict",none,.dict #[en P "__name__" 165 (.str "roomward.machines" 441),en P "__doc__" 166 .none,en P "__package__" 167 .none,en P "__loader__" 168 (.builtin "__main__.__loader__#opaque"),en P "__spec__" 169 .none,en P "__annotations__" 170 (.ref 6),en P "__builtins__" 171 (.ref 4),en P "__file__" 173 (.str "/claim/cut.py" 172),en P "__cached__" 174 .none,en P "_wall" 193 (.ref 21),en P "WardError" 213 (.ref 31),en P "NoName" 229 (.ref 44),en P "NoDeed" 245 (.ref 56),en P "NoRoom" 261 (.ref 68),en P "TwiceTold" 277 (.ref 80),en P "TooMany" 293 (.ref 92),en P "NoRule" 309 (.ref 104),en P "LETTERS" 313 (.str "abcdefghijklmnopqrstuvwxyz" 312),en P "FIGURES" 315 (.str "0123456789" 314),en P "MOST_SIGNS" 317 (.int 8 316),en P "MOST_DEEDS" 319 (.int 12 318),en P "is_name" 325 (.ref 111),en P "refuse_names" 334 (.ref 118),en P "weights_of" 344 (.ref 125),en P "marks_of" 353 (.ref 132),en P "Deeds" 440 (.ref 199),en P "MOST_ROOMS" 444 (.int 60 443),en P "named_rooms" 457 (.ref 210),en P "refuse_rooms" 465 (.ref 217),en P "leads_of" 477 (.ref 224)] 30,#[]⟩
def o216 (P : Params) : Obj := ⟨.none,none,.fields #[.int 1 0,.int 0 0,.ref 20,.int 5 0,.int 0 0,.ref 27,.int 7 0,.int 0 0,.ref 40,.int 9 0,.int 0 0,.ref 52,.int 11 0,.int 0 0,.ref 64,.int 13 0,.int 0 0,.ref 76,.int 15 0,.int 0 0,.ref 88,.int 17 0,.int 0 0,.ref 100,.int 24 0,.int 0 0,.ref 110,.int 29 0,.int 0 0,.ref 117,.int 39 0,.int 0 0,.ref 124,.int 46 0,.int 0 0,.ref 131,.int 51 0,.int 0 0,.ref 138,.int 84 0,.int 0 0,.ref 209,.int 91 0,.int 0 0,.ref 216,.int 95 0,.int 0 0,.ref 223],#[]⟩
def o217 (P : Params) : Obj := ⟨.type "tuple",none,.seq #[] 0,#[]⟩
def o218 (P : Params) : Obj := ⟨.none,none,.fields #[],#[]⟩
def o219 (P : Params) : Obj := ⟨.type "tuple",none,.seq #[.str "begin" 448,.str "ends" 449,.str "doors" 450,.str "rooms" 451,.str "room" 452,.str "deed" 453,.str "far" 454] 0,#[]⟩
def o220 (P : Params) : Obj := ⟨.type "tuple",none,.seq #[] 0,#[]⟩
def o221 (P : Params) : Obj := ⟨.none,none,.func ⟨"named_rooms","named_rooms",defArgs (tp 21),.stmts (defBody (tp 21)),defScope (tp 21),0,[],.none,.none,.none,.none,none,.none,.none,0⟩,#[]⟩
def o222 (P : Params) : Obj := ⟨.type "code",none,.fields #[.str "named_rooms" 445,.str "named_rooms" 446,.str "/claim/cut.py" 447,.int 84 0,.int 3 0,.int 0 0,.int 0 0,.int 3 0,.ref 204,.bool true,.int 181 0,.ref 205,.none,.ref 206,.ref 207,.ref 208,.int 455 0,.int 84 0,.str "/claim/cut.py" 456],#[]⟩
def o223 (P : Params) : Obj := ⟨.type "function",none,.func ⟨"named_rooms","named_rooms",defArgs (tp 21),.stmts (defBody (tp 21)),defScope (tp 21),3,[],.none,.none,.none,.str "roomward.machines" 441,none,.ref 209,.none,0⟩,#[]⟩
def o224 (P : Params) : Obj := ⟨.type "tuple",none,.seq #[] 0,#[]⟩
def o225 (P : Params) : Obj := ⟨.none,none,.fields #[],#[]⟩
def o226 (P : Params) : Obj := ⟨.type "tuple",none,.seq #[.str "rooms" 461,.str "room" 462] 0,#[]⟩
def o227 (P : Params) : Obj := ⟨.type "tuple",none,.seq #[] 0,#[]⟩
def o228 (P : Params) : Obj := ⟨.none,none,.func ⟨"refuse_rooms","refuse_rooms",defArgs (tp 22),.stmts (defBody (tp 22)),defScope (tp 22),0,[],.none,.none,.none,.none,none,.none,.none,0⟩,#[]⟩
def o229 (P : Params) : Obj := ⟨.type "code",none,.fields #[.str "refuse_rooms" 458,.str "refuse_rooms" 459,.str "/claim/cut.py" 460,.int 91 0,.int 1 0,.int 0 0,.int 0 0,.int 3 0,.ref 211,.bool true,.int 181 0,.ref 212,.none,.ref 213,.ref 214,.ref 215,.int 463 0,.int 91 0,.str "/claim/cut.py" 464],#[]⟩
def o230 (P : Params) : Obj := ⟨.type "function",none,.func ⟨"refuse_rooms","refuse_rooms",defArgs (tp 22),.stmts (defBody (tp 22)),defScope (tp 22),3,[],.none,.none,.none,.str "roomward.machines" 441,none,.ref 216,.none,0⟩,#[]⟩
def o231 (P : Params) : Obj := ⟨.type "tuple",none,.seq #[] 0,#[]⟩
def o232 (P : Params) : Obj := ⟨.none,none,.fields #[],#[]⟩
def o233 (P : Params) : Obj := ⟨.type "tuple",none,.seq #[.str "rooms" 469,.str "doors" 470,.str "leads" 471,.str "room" 472,.str "deed" 473,.str "far" 474] 0,#[]⟩
def o234 (P : Params) : Obj := ⟨.type "tuple",none,.seq #[] 0,#[]⟩
def o235 (P : Params) : Obj := ⟨.none,none,.func ⟨"leads_of","leads_of",defArgs (tp 23),.stmts (defBody (tp 23)),defScope (tp 23),0,[],.none,.none,.none,.none,none,.none,.none,0⟩,#[]⟩
def o236 (P : Params) : Obj := ⟨.type "code",none,.fields #[.str "leads_of" 466,.str "leads_of" 467,.str "/claim/cut.py" 468,.int 95 0,.int 2 0,.int 0 0,.int 0 0,.int 3 0,.ref 218,.bool true,.int 181 0,.ref 219,.none,.ref 220,.ref 221,.ref 222,.int 475 0,.int 95 0,.str "/claim/cut.py" 476],#[]⟩
def o237 (P : Params) : Obj := ⟨.type "function",none,.func ⟨"leads_of","leads_of",defArgs (tp 23),.stmts (defBody (tp 23)),defScope (tp 23),3,[],.none,.none,.none,.str "roomward.machines" 441,none,.ref 223,.none,0⟩,#[]⟩
noncomputable def T9 (P : Params) : BT := (bn (boot_o_0 P) (bn (boot_o_1 P) (bn (o215 P) (bn (boot_o_7 P) (bn (o6 P) (bn (o103 P) (bn (o63 P) (bn (o136 P) bz bz) (bn (o202 P) bz bz)) (bn (o104 P) (bn (o170 P) bz bz) (bn (o236 P) bz bz))) (bn (o44 P) (bn (o82 P) (bn (o154 P) bz bz) (bn (o220 P) bz bz)) (bn (o120 P) (bn (o186 P) bz bz) bz))) (bn (o14 P) (bn (o33 P) (bn (o74 P) (bn (o146 P) bz bz) (bn (o210 P) bz bz)) (bn (o112 P) (bn (o178 P) bz bz) bz)) (bn (o52 P) (bn (o93 P) (bn (o162 P) bz bz) (bn (o228 P) bz bz)) (bn (o128 P) (bn (o194 P) bz bz) bz)))) (bn (o0 P) (bn (o10 P) (bn (o29 P) (bn (o67 P) (bn (o140 P) bz bz) (bn (o206 P) bz bz)) (bn (o108 P) (bn (o174 P) bz bz) bz)) (bn (o48 P) (bn (o89 P) (bn (o158 P) bz bz) (bn (o224 P) bz bz)) (bn (o124 P) (bn (o190 P) bz bz) bz))) (bn (o18 P) (bn (o37 P) (bn (o78 P) (bn (o150 P) bz bz) (bn (o214 P) bz bz)) (bn (o116 P) (bn (o182 P) bz bz) bz)) (bn (o59 P) (bn (o97 P) (bn (o166 P) bz bz) (bn (o232 P) bz bz)) (bn (o132 P) (bn (o198 P) bz bz) bz))))) (bn (boot_o_5 P) (bn (boot_o_9 P) (bn (o8 P) (bn (o24 P) (bn (o65 P) (bn (o138 P) bz bz) (bn (o204 P) bz bz)) (bn (o106 P) (bn (o172 P) bz bz) bz)) (bn (o46 P) (bn (o84 P) (bn (o156 P) bz bz) (bn (o222 P) bz bz)) (bn (o122 P) (bn (o188 P) bz bz) bz))) (bn (o16 P) (bn (o35 P) (bn (o76 P) (bn (o148 P) bz bz) (bn (o212 P) bz bz)) (bn (o114 P) (bn (o180 P) bz bz) bz)) (bn (o54 P) (bn (o95 P) (bn (o164 P) bz bz) (bn (o230 P) bz bz)) (bn (o130 P) (bn (o196 P) bz bz) bz)))) (bn (o2 P) (bn (o12 P) (bn (o31 P) (bn (o69 P) (bn (o144 P) bz bz) (bn (o208 P) bz bz)) (bn (o110 P) (bn (o176 P) bz bz) bz)) (bn (o50 P) (bn (o91 P) (bn (o160 P) bz bz) (bn (o226 P) bz bz)) (bn (o126 P) (bn (o192 P) bz bz) bz))) (bn (o20 P) (bn (o39 P) (bn (o80 P) (bn (o152 P) bz bz) (bn (o218 P) bz bz)) (bn (o118 P) (bn (o184 P) bz bz) bz)) (bn (o61 P) (bn (o99 P) (bn (o168 P) bz bz) (bn (o234 P) bz bz)) (bn (o134 P) (bn (o200 P) bz bz) bz)))))) (bn (boot_o_2 P) (bn (boot_o_4 P) (bn (boot_o_8 P) (bn (o7 P) (bn (o23 P) (bn (o64 P) (bn (o137 P) bz bz) (bn (o203 P) bz bz)) (bn (o105 P) (bn (o171 P) bz bz) (bn (o237 P) bz bz))) (bn (o45 P) (bn (o83 P) (bn (o155 P) bz bz) (bn (o221 P) bz bz)) (bn (o121 P) (bn (o187 P) bz bz) bz))) (bn (o15 P) (bn (o34 P) (bn (o75 P) (bn (o147 P) bz bz) (bn (o211 P) bz bz)) (bn (o113 P) (bn (o179 P) bz bz) bz)) (bn (o53 P) (bn (o94 P) (bn (o163 P) bz bz) (bn (o229 P) bz bz)) (bn (o129 P) (bn (o195 P) bz bz) bz)))) (bn (o216 P) (bn (o11 P) (bn (o30 P) (bn (o68 P) (bn (o141 P) bz bz) (bn (o207 P) bz bz)) (bn (o109 P) (bn (o175 P) bz bz) bz)) (bn (o49 P) (bn (o90 P) (bn (o159 P) bz bz) (bn (o225 P) bz bz)) (bn (o125 P) (bn (o191 P) bz bz) bz))) (bn (o19 P) (bn (o38 P) (bn (o79 P) (bn (o151 P) bz bz) (bn (o217 P) bz bz)) (bn (o117 P) (bn (o183 P) bz bz) bz)) (bn (o60 P) (bn (o98 P) (bn (o167 P) bz bz) (bn (o233 P) bz bz)) (bn (o133 P) (bn (o199 P) bz bz) bz))))) (bn (boot_o_6 P) (bn (boot_o_10 P) (bn (o9 P) (bn (o25 P) (bn (o66 P) (bn (o139 P) bz bz) (bn (o205 P) bz bz)) (bn (o107 P) (bn (o173 P) bz bz) bz)) (bn (o47 P) (bn (o85 P) (bn (o157 P) bz bz) (bn (o223 P) bz bz)) (bn (o123 P) (bn (o189 P) bz bz) bz))) (bn (o17 P) (bn (o36 P) (bn (o77 P) (bn (o149 P) bz bz) (bn (o213 P) bz bz)) (bn (o115 P) (bn (o181 P) bz bz) bz)) (bn (o55 P) (bn (o96 P) (bn (o165 P) bz bz) (bn (o231 P) bz bz)) (bn (o131 P) (bn (o197 P) bz bz) bz)))) (bn (o3 P) (bn (o13 P) (bn (o32 P) (bn (o70 P) (bn (o145 P) bz bz) (bn (o209 P) bz bz)) (bn (o111 P) (bn (o177 P) bz bz) bz)) (bn (o51 P) (bn (o92 P) (bn (o161 P) bz bz) (bn (o227 P) bz bz)) (bn (o127 P) (bn (o193 P) bz bz) bz))) (bn (o21 P) (bn (o40 P) (bn (o81 P) (bn (o153 P) bz bz) (bn (o219 P) bz bz)) (bn (o119 P) (bn (o185 P) bz bz) bz)) (bn (o62 P) (bn (o100 P) (bn (o169 P) bz bz) (bn (o235 P) bz bz)) (bn (o135 P) (bn (o201 P) bz bz) bz)))))))
theorem pc9 : Hd.Pc pp env T8 204 441 T9 225 478 118 [tp 19, tp 20, tp 21, tp 22, tp 23] ⟨51, 0, 81, 16⟩ ⟨95, 0, 103, 16⟩ := by
  intro w
  kernel_rfl
def o238 (P : Params) : Obj := ⟨.type "dict",none,.dict #[en P "__name__" 165 (.str "roomward.machines" 441),en P "__doc__" 166 .none,en P "__package__" 167 .none,en P "__loader__" 168 (.builtin "__main__.__loader__#opaque"),en P "__spec__" 169 .none,en P "__annotations__" 170 (.ref 6),en P "__builtins__" 171 (.ref 4),en P "__file__" 173 (.str "/claim/cut.py" 172),en P "__cached__" 174 .none,en P "_wall" 193 (.ref 21),en P "WardError" 213 (.ref 31),en P "NoName" 229 (.ref 44),en P "NoDeed" 245 (.ref 56),en P "NoRoom" 261 (.ref 68),en P "TwiceTold" 277 (.ref 80),en P "TooMany" 293 (.ref 92),en P "NoRule" 309 (.ref 104),en P "LETTERS" 313 (.str "abcdefghijklmnopqrstuvwxyz" 312),en P "FIGURES" 315 (.str "0123456789" 314),en P "MOST_SIGNS" 317 (.int 8 316),en P "MOST_DEEDS" 319 (.int 12 318),en P "is_name" 325 (.ref 111),en P "refuse_names" 334 (.ref 118),en P "weights_of" 344 (.ref 125),en P "marks_of" 353 (.ref 132),en P "Deeds" 440 (.ref 199),en P "MOST_ROOMS" 444 (.int 60 443),en P "named_rooms" 457 (.ref 210),en P "refuse_rooms" 465 (.ref 217),en P "leads_of" 477 (.ref 224),en P "Machine" 595 (.ref 317)] 31,#[]⟩
def o239 (P : Params) : Obj := ⟨.none,none,.fields #[.int 1 0,.int 0 0,.ref 20,.int 5 0,.int 0 0,.ref 27,.int 7 0,.int 0 0,.ref 40,.int 9 0,.int 0 0,.ref 52,.int 11 0,.int 0 0,.ref 64,.int 13 0,.int 0 0,.ref 76,.int 15 0,.int 0 0,.ref 88,.int 17 0,.int 0 0,.ref 100,.int 24 0,.int 0 0,.ref 110,.int 29 0,.int 0 0,.ref 117,.int 39 0,.int 0 0,.ref 124,.int 46 0,.int 0 0,.ref 131,.int 51 0,.int 0 0,.ref 138,.int 84 0,.int 0 0,.ref 209,.int 91 0,.int 0 0,.ref 216,.int 95 0,.int 0 0,.ref 223,.int 104 0,.int 0 0,.ref 230],#[]⟩
def o240 (P : Params) : Obj := ⟨.type "tuple",none,.seq #[] 0,#[]⟩
def o241 (P : Params) : Obj := ⟨.type "builtin_function_or_method",none,.fields #[.builtin "type.__prepare__",.type "type"],#[]⟩
def o242 (P : Params) : Obj := ⟨.type "dict",none,.dict #[en P "__module__" 485 (.str "roomward.machines" 441),en P "__qualname__" 487 (.str "Machine" 486),en P "__firstlineno__" 489 (.int 104 488),en P "__init__" 495 (.ref 237),en P "deeds" 502 (.ref 244),en P "begin" 509 (.ref 251),en P "rooms" 516 (.ref 258),en P "ends" 523 (.ref 265),en P "knows" 530 (.ref 272),en P "require_room" 538 (.ref 279),en P "at" 546 (.ref 286),en P "to" 555 (.ref 293),en P "is_end" 563 (.ref 300),en P "goes" 572 (.ref 307),en P "behind" 582 (.ref 314),en P "__static_attributes__" 588 (.ref 315)] 16,#[]⟩
def o243 (P : Params) : Obj := ⟨.type "tuple",none,.seq #[] 0,#[]⟩
def o244 (P : Params) : Obj := ⟨.none,none,.fields #[.int 106 0,.int 4 0,.ref 236,.int 121 0,.int 4 0,.ref 243,.int 124 0,.int 4 0,.ref 250,.int 127 0,.int 4 0,.ref 257,.int 130 0,.int 4 0,.ref 264,.int 133 0,.int 4 0,.ref 271,.int 136 0,.int 4 0,.ref 278,.int 140 0,.int 4 0,.ref 285,.int 144 0,.int 4 0,.ref 292,.int 149 0,.int 4 0,.ref 299,.int 153 0,.int 4 0,.ref 306,.int 158 0,.int 4 0,.ref 313],#[]⟩
def o245 (P : Params) : Obj := ⟨.type "code",none,.fields #[.str "Machine" 480,.str "Machine" 481,.str "/claim/cut.py" 482,.int 104 0,.int 0 0,.int 0 0,.int 0 0,.int 0 0,.ref 228,.bool false,.int 181 0,.ref 229,.none,.none,.none,.none,.int 483 0,.int 104 0,.str "/claim/cut.py" 484],#[]⟩
def o246 (P : Params) : Obj := ⟨.type "frame",none,.plain,#[(some (.ref 230)),(some (.ref 3)),(some (.ref 227)),none,(some (.str "roomward.machines" 441)),none,(some (.ref 0))]⟩
def o247 (P : Params) : Obj := ⟨.type "tuple",none,.seq #[.none] 0,#[]⟩
def o248 (P : Params) : Obj := ⟨.type "tuple",none,.seq #[] 0,#[]⟩
def o249 (P : Params) : Obj := ⟨.none,none,.fields #[],#[]⟩
def o250 (P : Params) : Obj := ⟨.none,none,.func ⟨"__init__","Machine.__init__",defArgs (inClass (tp 24) 0),.stmts (defBody (inClass (tp 24) 0)),defScope (inClass (tp 24) 0),0,[],.none,.none,.none,.none,none,.none,.none,0⟩,#[]⟩
def o251 (P : Params) : Obj := ⟨.type "code",none,.fields #[.str "__init__" 490,.str "Machine.__init__" 491,.str "/claim/cut.py" 492,.int 106 0,.int 6 0,.int 0 0,.int 0 0,.int 3 0,.ref 233,.bool true,.int 181 0,.ref 234,.none,.none,.none,.ref 235,.int 493 0,.int 106 0,.str "/claim/cut.py" 494],#[]⟩
def o252 (P : Params) : Obj := ⟨.type "function",none,.func ⟨"__init__","Machine.__init__",defArgs (inClass (tp 24) 0),.stmts (defBody (inClass (tp 24) 0)),defScope (inClass (tp 24) 0),3,[],.ref 232,.none,.none,.str "roomward.machines" 441,none,.ref 236,.none,0⟩,#[]⟩
def o253 (P : Params) : Obj := ⟨.type "tuple",none,.seq #[] 0,#[]⟩
def o254 (P : Params) : Obj := ⟨.none,none,.fields #[],#[]⟩
def o255 (P : Params) : Obj := ⟨.type "tuple",none,.seq #[.str "self" 499] 0,#[]⟩
def o256 (P : Params) : Obj := ⟨.type "tuple",none,.seq #[] 0,#[]⟩
def o257 (P : Params) : Obj := ⟨.none,none,.func ⟨"deeds","Machine.deeds",defArgs (inClass (tp 24) 1),.stmts (defBody (inClass (tp 24) 1)),defScope (inClass (tp 24) 1),0,[],.none,.none,.none,.none,none,.none,.none,0⟩,#[]⟩
def o258 (P : Params) : Obj := ⟨.type "code",none,.fields #[.str "deeds" 496,.str "Machine.deeds" 497,.str "/claim/cut.py" 498,.int 121 0,.int 1 0,.int 0 0,.int 0 0,.int 3 0,.ref 238,.bool true,.int 181 0,.ref 239,.none,.ref 240,.ref 241,.ref 242,.int 500 0,.int 121 0,.str "/claim/cut.py" 501],#[]⟩
def o259 (P : Params) : Obj := ⟨.type "function",none,.func ⟨"deeds","Machine.deeds",defArgs (inClass (tp 24) 1),.stmts (defBody (inClass (tp 24) 1)),defScope (inClass (tp 24) 1),3,[],.none,.none,.none,.str "roomward.machines" 441,none,.ref 243,.none,0⟩,#[]⟩
def o260 (P : Params) : Obj := ⟨.type "tuple",none,.seq #[] 0,#[]⟩
def o261 (P : Params) : Obj := ⟨.none,none,.fields #[],#[]⟩
def o262 (P : Params) : Obj := ⟨.type "tuple",none,.seq #[.str "self" 506] 0,#[]⟩
def o263 (P : Params) : Obj := ⟨.type "tuple",none,.seq #[] 0,#[]⟩
def o264 (P : Params) : Obj := ⟨.none,none,.func ⟨"begin","Machine.begin",defArgs (inClass (tp 24) 2),.stmts (defBody (inClass (tp 24) 2)),defScope (inClass (tp 24) 2),0,[],.none,.none,.none,.none,none,.none,.none,0⟩,#[]⟩
def o265 (P : Params) : Obj := ⟨.type "code",none,.fields #[.str "begin" 503,.str "Machine.begin" 504,.str "/claim/cut.py" 505,.int 124 0,.int 1 0,.int 0 0,.int 0 0,.int 3 0,.ref 245,.bool true,.int 181 0,.ref 246,.none,.ref 247,.ref 248,.ref 249,.int 507 0,.int 124 0,.str "/claim/cut.py" 508],#[]⟩
def o266 (P : Params) : Obj := ⟨.type "function",none,.func ⟨"begin","Machine.begin",defArgs (inClass (tp 24) 2),.stmts (defBody (inClass (tp 24) 2)),defScope (inClass (tp 24) 2),3,[],.none,.none,.none,.str "roomward.machines" 441,none,.ref 250,.none,0⟩,#[]⟩
def o267 (P : Params) : Obj := ⟨.type "tuple",none,.seq #[] 0,#[]⟩
def o268 (P : Params) : Obj := ⟨.none,none,.fields #[],#[]⟩
def o269 (P : Params) : Obj := ⟨.type "tuple",none,.seq #[.str "self" 513] 0,#[]⟩
def o270 (P : Params) : Obj := ⟨.type "tuple",none,.seq #[] 0,#[]⟩
def o271 (P : Params) : Obj := ⟨.none,none,.func ⟨"rooms","Machine.rooms",defArgs (inClass (tp 24) 3),.stmts (defBody (inClass (tp 24) 3)),defScope (inClass (tp 24) 3),0,[],.none,.none,.none,.none,none,.none,.none,0⟩,#[]⟩
def o272 (P : Params) : Obj := ⟨.type "code",none,.fields #[.str "rooms" 510,.str "Machine.rooms" 511,.str "/claim/cut.py" 512,.int 127 0,.int 1 0,.int 0 0,.int 0 0,.int 3 0,.ref 252,.bool true,.int 181 0,.ref 253,.none,.ref 254,.ref 255,.ref 256,.int 514 0,.int 127 0,.str "/claim/cut.py" 515],#[]⟩
def o273 (P : Params) : Obj := ⟨.type "function",none,.func ⟨"rooms","Machine.rooms",defArgs (inClass (tp 24) 3),.stmts (defBody (inClass (tp 24) 3)),defScope (inClass (tp 24) 3),3,[],.none,.none,.none,.str "roomward.machines" 441,none,.ref 257,.none,0⟩,#[]⟩
def o274 (P : Params) : Obj := ⟨.type "tuple",none,.seq #[] 0,#[]⟩
def o275 (P : Params) : Obj := ⟨.none,none,.fields #[],#[]⟩
def o276 (P : Params) : Obj := ⟨.type "tuple",none,.seq #[.str "self" 520] 0,#[]⟩
def o277 (P : Params) : Obj := ⟨.type "tuple",none,.seq #[] 0,#[]⟩
def o278 (P : Params) : Obj := ⟨.none,none,.func ⟨"ends","Machine.ends",defArgs (inClass (tp 24) 4),.stmts (defBody (inClass (tp 24) 4)),defScope (inClass (tp 24) 4),0,[],.none,.none,.none,.none,none,.none,.none,0⟩,#[]⟩
def o279 (P : Params) : Obj := ⟨.type "code",none,.fields #[.str "ends" 517,.str "Machine.ends" 518,.str "/claim/cut.py" 519,.int 130 0,.int 1 0,.int 0 0,.int 0 0,.int 3 0,.ref 259,.bool true,.int 181 0,.ref 260,.none,.ref 261,.ref 262,.ref 263,.int 521 0,.int 130 0,.str "/claim/cut.py" 522],#[]⟩
def o280 (P : Params) : Obj := ⟨.type "function",none,.func ⟨"ends","Machine.ends",defArgs (inClass (tp 24) 4),.stmts (defBody (inClass (tp 24) 4)),defScope (inClass (tp 24) 4),3,[],.none,.none,.none,.str "roomward.machines" 441,none,.ref 264,.none,0⟩,#[]⟩
def o281 (P : Params) : Obj := ⟨.type "tuple",none,.seq #[] 0,#[]⟩
def o282 (P : Params) : Obj := ⟨.none,none,.fields #[],#[]⟩
def o283 (P : Params) : Obj := ⟨.type "tuple",none,.seq #[.str "self" 527] 0,#[]⟩
def o284 (P : Params) : Obj := ⟨.type "tuple",none,.seq #[] 0,#[]⟩
def o285 (P : Params) : Obj := ⟨.none,none,.func ⟨"knows","Machine.knows",defArgs (inClass (tp 24) 5),.stmts (defBody (inClass (tp 24) 5)),defScope (inClass (tp 24) 5),0,[],.none,.none,.none,.none,none,.none,.none,0⟩,#[]⟩
def o286 (P : Params) : Obj := ⟨.type "code",none,.fields #[.str "knows" 524,.str "Machine.knows" 525,.str "/claim/cut.py" 526,.int 133 0,.int 1 0,.int 0 0,.int 0 0,.int 3 0,.ref 266,.bool true,.int 181 0,.ref 267,.none,.ref 268,.ref 269,.ref 270,.int 528 0,.int 133 0,.str "/claim/cut.py" 529],#[]⟩
def o287 (P : Params) : Obj := ⟨.type "function",none,.func ⟨"knows","Machine.knows",defArgs (inClass (tp 24) 5),.stmts (defBody (inClass (tp 24) 5)),defScope (inClass (tp 24) 5),3,[],.none,.none,.none,.str "roomward.machines" 441,none,.ref 271,.none,0⟩,#[]⟩
def o288 (P : Params) : Obj := ⟨.type "tuple",none,.seq #[] 0,#[]⟩
def o289 (P : Params) : Obj := ⟨.none,none,.fields #[],#[]⟩
def o290 (P : Params) : Obj := ⟨.type "tuple",none,.seq #[.str "self" 534,.str "room" 535] 0,#[]⟩
def o291 (P : Params) : Obj := ⟨.type "tuple",none,.seq #[] 0,#[]⟩
def o292 (P : Params) : Obj := ⟨.none,none,.func ⟨"require_room","Machine.require_room",defArgs (inClass (tp 24) 6),.stmts (defBody (inClass (tp 24) 6)),defScope (inClass (tp 24) 6),0,[],.none,.none,.none,.none,none,.none,.none,0⟩,#[]⟩
def o293 (P : Params) : Obj := ⟨.type "code",none,.fields #[.str "require_room" 531,.str "Machine.require_room" 532,.str "/claim/cut.py" 533,.int 136 0,.int 2 0,.int 0 0,.int 0 0,.int 3 0,.ref 273,.bool true,.int 181 0,.ref 274,.none,.ref 275,.ref 276,.ref 277,.int 536 0,.int 136 0,.str "/claim/cut.py" 537],#[]⟩
def o294 (P : Params) : Obj := ⟨.type "function",none,.func ⟨"require_room","Machine.require_room",defArgs (inClass (tp 24) 6),.stmts (defBody (inClass (tp 24) 6)),defScope (inClass (tp 24) 6),3,[],.none,.none,.none,.str "roomward.machines" 441,none,.ref 278,.none,0⟩,#[]⟩
def o295 (P : Params) : Obj := ⟨.type "tuple",none,.seq #[] 0,#[]⟩
def o296 (P : Params) : Obj := ⟨.none,none,.fields #[],#[]⟩
def o297 (P : Params) : Obj := ⟨.type "tuple",none,.seq #[.str "self" 542,.str "room" 543] 0,#[]⟩
def o298 (P : Params) : Obj := ⟨.type "tuple",none,.seq #[] 0,#[]⟩
def o299 (P : Params) : Obj := ⟨.none,none,.func ⟨"at","Machine.at",defArgs (inClass (tp 24) 7),.stmts (defBody (inClass (tp 24) 7)),defScope (inClass (tp 24) 7),0,[],.none,.none,.none,.none,none,.none,.none,0⟩,#[]⟩
def o300 (P : Params) : Obj := ⟨.type "code",none,.fields #[.str "at" 539,.str "Machine.at" 540,.str "/claim/cut.py" 541,.int 140 0,.int 2 0,.int 0 0,.int 0 0,.int 3 0,.ref 280,.bool true,.int 181 0,.ref 281,.none,.ref 282,.ref 283,.ref 284,.int 544 0,.int 140 0,.str "/claim/cut.py" 545],#[]⟩
def o301 (P : Params) : Obj := ⟨.type "function",none,.func ⟨"at","Machine.at",defArgs (inClass (tp 24) 7),.stmts (defBody (inClass (tp 24) 7)),defScope (inClass (tp 24) 7),3,[],.none,.none,.none,.str "roomward.machines" 441,none,.ref 285,.none,0⟩,#[]⟩
def o302 (P : Params) : Obj := ⟨.type "tuple",none,.seq #[] 0,#[]⟩
def o303 (P : Params) : Obj := ⟨.none,none,.fields #[],#[]⟩
def o304 (P : Params) : Obj := ⟨.type "tuple",none,.seq #[.str "self" 550,.str "room" 551,.str "deed" 552] 0,#[]⟩
def o305 (P : Params) : Obj := ⟨.type "tuple",none,.seq #[] 0,#[]⟩
def o306 (P : Params) : Obj := ⟨.none,none,.func ⟨"to","Machine.to",defArgs (inClass (tp 24) 8),.stmts (defBody (inClass (tp 24) 8)),defScope (inClass (tp 24) 8),0,[],.none,.none,.none,.none,none,.none,.none,0⟩,#[]⟩
def o307 (P : Params) : Obj := ⟨.type "code",none,.fields #[.str "to" 547,.str "Machine.to" 548,.str "/claim/cut.py" 549,.int 144 0,.int 3 0,.int 0 0,.int 0 0,.int 3 0,.ref 287,.bool true,.int 181 0,.ref 288,.none,.ref 289,.ref 290,.ref 291,.int 553 0,.int 144 0,.str "/claim/cut.py" 554],#[]⟩
def o308 (P : Params) : Obj := ⟨.type "function",none,.func ⟨"to","Machine.to",defArgs (inClass (tp 24) 8),.stmts (defBody (inClass (tp 24) 8)),defScope (inClass (tp 24) 8),3,[],.none,.none,.none,.str "roomward.machines" 441,none,.ref 292,.none,0⟩,#[]⟩
def o309 (P : Params) : Obj := ⟨.type "tuple",none,.seq #[] 0,#[]⟩
def o310 (P : Params) : Obj := ⟨.none,none,.fields #[],#[]⟩
def o311 (P : Params) : Obj := ⟨.type "tuple",none,.seq #[.str "self" 559,.str "room" 560] 0,#[]⟩
def o312 (P : Params) : Obj := ⟨.type "tuple",none,.seq #[] 0,#[]⟩
def o313 (P : Params) : Obj := ⟨.none,none,.func ⟨"is_end","Machine.is_end",defArgs (inClass (tp 24) 9),.stmts (defBody (inClass (tp 24) 9)),defScope (inClass (tp 24) 9),0,[],.none,.none,.none,.none,none,.none,.none,0⟩,#[]⟩
def o314 (P : Params) : Obj := ⟨.type "code",none,.fields #[.str "is_end" 556,.str "Machine.is_end" 557,.str "/claim/cut.py" 558,.int 149 0,.int 2 0,.int 0 0,.int 0 0,.int 3 0,.ref 294,.bool true,.int 181 0,.ref 295,.none,.ref 296,.ref 297,.ref 298,.int 561 0,.int 149 0,.str "/claim/cut.py" 562],#[]⟩
def o315 (P : Params) : Obj := ⟨.type "function",none,.func ⟨"is_end","Machine.is_end",defArgs (inClass (tp 24) 9),.stmts (defBody (inClass (tp 24) 9)),defScope (inClass (tp 24) 9),3,[],.none,.none,.none,.str "roomward.machines" 441,none,.ref 299,.none,0⟩,#[]⟩
def o316 (P : Params) : Obj := ⟨.type "tuple",none,.seq #[] 0,#[]⟩
def o317 (P : Params) : Obj := ⟨.none,none,.fields #[],#[]⟩
def o318 (P : Params) : Obj := ⟨.type "tuple",none,.seq #[.str "self" 567,.str "room" 568,.str "deed" 569] 0,#[]⟩
def o319 (P : Params) : Obj := ⟨.type "tuple",none,.seq #[] 0,#[]⟩
def o320 (P : Params) : Obj := ⟨.none,none,.func ⟨"goes","Machine.goes",defArgs (inClass (tp 24) 10),.stmts (defBody (inClass (tp 24) 10)),defScope (inClass (tp 24) 10),0,[],.none,.none,.none,.none,none,.none,.none,0⟩,#[]⟩
def o321 (P : Params) : Obj := ⟨.type "code",none,.fields #[.str "goes" 564,.str "Machine.goes" 565,.str "/claim/cut.py" 566,.int 153 0,.int 3 0,.int 0 0,.int 0 0,.int 3 0,.ref 301,.bool true,.int 181 0,.ref 302,.none,.ref 303,.ref 304,.ref 305,.int 570 0,.int 153 0,.str "/claim/cut.py" 571],#[]⟩
def o322 (P : Params) : Obj := ⟨.type "function",none,.func ⟨"goes","Machine.goes",defArgs (inClass (tp 24) 10),.stmts (defBody (inClass (tp 24) 10)),defScope (inClass (tp 24) 10),3,[],.none,.none,.none,.str "roomward.machines" 441,none,.ref 306,.none,0⟩,#[]⟩
def o323 (P : Params) : Obj := ⟨.type "tuple",none,.seq #[] 0,#[]⟩
def o324 (P : Params) : Obj := ⟨.none,none,.fields #[],#[]⟩
def o325 (P : Params) : Obj := ⟨.type "tuple",none,.seq #[.str "self" 576,.str "row" 577,.str "room" 578,.str "deed" 579] 0,#[]⟩
def o326 (P : Params) : Obj := ⟨.type "tuple",none,.seq #[] 0,#[]⟩
def o327 (P : Params) : Obj := ⟨.none,none,.func ⟨"behind","Machine.behind",defArgs (inClass (tp 24) 11),.stmts (defBody (inClass (tp 24) 11)),defScope (inClass (tp 24) 11),0,[],.none,.none,.none,.none,none,.none,.none,0⟩,#[]⟩
def o328 (P : Params) : Obj := ⟨.type "code",none,.fields #[.str "behind" 573,.str "Machine.behind" 574,.str "/claim/cut.py" 575,.int 158 0,.int 2 0,.int 0 0,.int 0 0,.int 3 0,.ref 308,.bool true,.int 181 0,.ref 309,.none,.ref 310,.ref 311,.ref 312,.int 580 0,.int 158 0,.str "/claim/cut.py" 581],#[]⟩
def o329 (P : Params) : Obj := ⟨.type "function",none,.func ⟨"behind","Machine.behind",defArgs (inClass (tp 24) 11),.stmts (defBody (inClass (tp 24) 11)),defScope (inClass (tp 24) 11),3,[],.none,.none,.none,.str "roomward.machines" 441,none,.ref 313,.none,0⟩,#[]⟩
def o330 (P : Params) : Obj := ⟨.type "tuple",none,.seq #[.str "deeds_made_of" 583,.str "end_marks" 584,.str "first_room" 585,.str "known_marks" 586,.str "leads" 587] 0,#[]⟩
def o331 (P : Params) : Obj := ⟨.type "dict",none,.dict #[en P "__module__" 485 (.str "roomward.machines" 441),en P "__firstlineno__" 489 (.int 104 488),en P "__init__" 495 (.ref 237),en P "deeds" 502 (.ref 244),en P "begin" 509 (.ref 251),en P "rooms" 516 (.ref 258),en P "ends" 523 (.ref 265),en P "knows" 530 (.ref 272),en P "require_room" 538 (.ref 279),en P "at" 546 (.ref 286),en P "to" 555 (.ref 293),en P "is_end" 563 (.ref 300),en P "goes" 572 (.ref 307),en P "behind" 582 (.ref 314),en P "__static_attributes__" 588 (.ref 315),en P "__dict__" 590 (.ref 318),en P "__weakref__" 592 (.ref 319),en P "__doc__" 593 .none] 4,#[]⟩
def o332 (P : Params) : Obj := ⟨.type "type",none,.cls ⟨"Machine",[.type "object"],[.ref 317,.type "object"],316,"Machine",true,[],[],false,none,false⟩,#[none,none,(some (.str "Machine" 478)),(some (.str "Machine" 486)),(some (.builtin "object.__new__")),(some (.bool true))]⟩
def o333 (P : Params) : Obj := ⟨.type "getset_descriptor",none,.fields #[.str "__dict__" 589,.ref 317,.builtin "function.__dict__",.builtin "function.__dict__#set"],#[]⟩
def o334 (P : Params) : Obj := ⟨.type "getset_descriptor",none,.fields #[.str "__weakref__" 591,.ref 317,.builtin "ExceptionGroup.__weakref__",.none],#[]⟩
def o335 (P : Params) : Obj := ⟨.type "super",none,.fields #[.ref 317,.ref 317,.ref 317],#[]⟩
def o336 (P : Params) : Obj := ⟨.type "builtin_function_or_method",none,.fields #[.builtin "object.__init_subclass__",.ref 317],#[]⟩
noncomputable def T10 (P : Params) : BT := (bn (boot_o_0 P) (bn (boot_o_1 P) (bn (o238 P) (bn (boot_o_7 P) (bn (o6 P) (bn (o103 P) (bn (o63 P) (bn (o136 P) (bn (o270 P) bz bz) bz) (bn (o202 P) (bn (o334 P) bz bz) bz)) (bn (o104 P) (bn (o170 P) (bn (o302 P) bz bz) bz) (bn (o236 P) bz bz))) (bn (o44 P) (bn (o82 P) (bn (o154 P) (bn (o286 P) bz bz) bz) (bn (o220 P) bz bz)) (bn (o120 P) (bn (o186 P) (bn (o318 P) bz bz) bz) (bn (o254 P) bz bz)))) (bn (o14 P) (bn (o33 P) (bn (o74 P) (bn (o146 P) (bn (o278 P) bz bz) bz) (bn (o210 P) bz bz)) (bn (o112 P) (bn (o178 P) (bn (o310 P) bz bz) bz) (bn (o246 P) bz bz))) (bn (o52 P) (bn (o93 P) (bn (o162 P) (bn (o294 P) bz bz) bz) (bn (o228 P) bz bz)) (bn (o128 P) (bn (o194 P) (bn (o326 P) bz bz) bz) (bn (o262 P) bz bz))))) (bn (o0 P) (bn (o10 P) (bn (o29 P) (bn (o67 P) (bn (o140 P) (bn (o274 P) bz bz) bz) (bn (o206 P) bz bz)) (bn (o108 P) (bn (o174 P) (bn (o306 P) bz bz) bz) (bn (o242 P) bz bz))) (bn (o48 P) (bn (o89 P) (bn (o158 P) (bn (o290 P) bz bz) bz) (bn (o224 P) bz bz)) (bn (o124 P) (bn (o190 P) (bn (o322 P) bz bz) bz) (bn (o258 P) bz bz)))) (bn (o18 P) (bn (o37 P) (bn (o78 P) (bn (o150 P) (bn (o282 P) bz bz) bz) (bn (o214 P) bz bz)) (bn (o116 P) (bn (o182 P) (bn (o314 P) bz bz) bz) (bn (o250 P) bz bz))) (bn (o59 P) (bn (o97 P) (bn (o166 P) (bn (o298 P) bz bz) bz) (bn (o232 P) bz bz)) (bn (o132 P) (bn (o198 P) (bn (o330 P) bz bz) bz) (bn (o266 P) bz bz)))))) (bn (boot_o_5 P) (bn (boot_o_9 P) (bn (o8 P) (bn (o24 P) (bn (o65 P) (bn (o138 P) (bn (o272 P) bz bz) bz) (bn (o204 P) (bn (o336 P) bz bz) bz)) (bn (o106 P) (bn (o172 P) (bn (o304 P) bz bz) bz) (bn (o240 P) bz bz))) (bn (o46 P) (bn (o84 P) (bn (o156 P) (bn (o288 P) bz bz) bz) (bn (o222 P) bz bz)) (bn (o122 P) (bn (o188 P) (bn (o320 P) bz bz) bz) (bn (o256 P) bz bz)))) (bn (o16 P) (bn (o35 P) (bn (o76 P) (bn (o148 P) (bn (o280 P) bz bz) bz) (bn (o212 P) bz bz)) (bn (o114 P) (bn (o180 P) (bn (o312 P) bz bz) bz) (bn (o248 P) bz bz))) (bn (o54 P) (bn (o95 P) (bn (o164 P) (bn (o296 P) bz bz) bz) (bn (o230 P) bz bz)) (bn (o130 P) (bn (o196 P) (bn (o328 P) bz bz) bz) (bn (o264 P) bz bz))))) (bn (o2 P) (bn (o12 P) (bn (o31 P) (bn (o69 P) (bn (o144 P) (bn (o276 P) bz bz) bz) (bn (o208 P) bz bz)) (bn (o110 P) (bn (o176 P) (bn (o308 P) bz bz) bz) (bn (o244 P) bz bz))) (bn (o50 P) (bn (o91 P) (bn (o160 P) (bn (o292 P) bz bz) bz) (bn (o226 P) bz bz)) (bn (o126 P) (bn (o192 P) (bn (o324 P) bz bz) bz) (bn (o260 P) bz bz)))) (bn (o20 P) (bn (o39 P) (bn (o80 P) (bn (o152 P) (bn (o284 P) bz bz) bz) (bn (o218 P) bz bz)) (bn (o118 P) (bn (o184 P) (bn (o316 P) bz bz) bz) (bn (o252 P) bz bz))) (bn (o61 P) (bn (o99 P) (bn (o168 P) (bn (o300 P) bz bz) bz) (bn (o234 P) bz bz)) (bn (o134 P) (bn (o200 P) (bn (o332 P) bz bz) bz) (bn (o268 P) bz bz))))))) (bn (boot_o_2 P) (bn (boot_o_4 P) (bn (boot_o_8 P) (bn (o7 P) (bn (o23 P) (bn (o64 P) (bn (o137 P) (bn (o271 P) bz bz) bz) (bn (o203 P) (bn (o335 P) bz bz) bz)) (bn (o105 P) (bn (o171 P) (bn (o303 P) bz bz) bz) (bn (o237 P) bz bz))) (bn (o45 P) (bn (o83 P) (bn (o155 P) (bn (o287 P) bz bz) bz) (bn (o221 P) bz bz)) (bn (o121 P) (bn (o187 P) (bn (o319 P) bz bz) bz) (bn (o255 P) bz bz)))) (bn (o15 P) (bn (o34 P) (bn (o75 P) (bn (o147 P) (bn (o279 P) bz bz) bz) (bn (o211 P) bz bz)) (bn (o113 P) (bn (o179 P) (bn (o311 P) bz bz) bz) (bn (o247 P) bz bz))) (bn (o53 P) (bn (o94 P) (bn (o163 P) (bn (o295 P) bz bz) bz) (bn (o229 P) bz bz)) (bn (o129 P) (bn (o195 P) (bn (o327 P) bz bz) bz) (bn (o263 P) bz bz))))) (bn (o239 P) (bn (o11 P) (bn (o30 P) (bn (o68 P) (bn (o141 P) (bn (o275 P) bz bz) bz) (bn (o207 P) bz bz)) (bn (o109 P) (bn (o175 P) (bn (o307 P) bz bz) bz) (bn (o243 P) bz bz))) (bn (o49 P) (bn (o90 P) (bn (o159 P) (bn (o291 P) bz bz) bz) (bn (o225 P) bz bz)) (bn (o125 P) (bn (o191 P) (bn (o323 P) bz bz) bz) (bn (o259 P) bz bz)))) (bn (o19 P) (bn (o38 P) (bn (o79 P) (bn (o151 P) (bn (o283 P) bz bz) bz) (bn (o217 P) bz bz)) (bn (o117 P) (bn (o183 P) (bn (o315 P) bz bz) bz) (bn (o251 P) bz bz))) (bn (o60 P) (bn (o98 P) (bn (o167 P) (bn (o299 P) bz bz) bz) (bn (o233 P) bz bz)) (bn (o133 P) (bn (o199 P) (bn (o331 P) bz bz) bz) (bn (o267 P) bz bz)))))) (bn (boot_o_6 P) (bn (boot_o_10 P) (bn (o9 P) (bn (o25 P) (bn (o66 P) (bn (o139 P) (bn (o273 P) bz bz) bz) (bn (o205 P) bz bz)) (bn (o107 P) (bn (o173 P) (bn (o305 P) bz bz) bz) (bn (o241 P) bz bz))) (bn (o47 P) (bn (o85 P) (bn (o157 P) (bn (o289 P) bz bz) bz) (bn (o223 P) bz bz)) (bn (o123 P) (bn (o189 P) (bn (o321 P) bz bz) bz) (bn (o257 P) bz bz)))) (bn (o17 P) (bn (o36 P) (bn (o77 P) (bn (o149 P) (bn (o281 P) bz bz) bz) (bn (o213 P) bz bz)) (bn (o115 P) (bn (o181 P) (bn (o313 P) bz bz) bz) (bn (o249 P) bz bz))) (bn (o55 P) (bn (o96 P) (bn (o165 P) (bn (o297 P) bz bz) bz) (bn (o231 P) bz bz)) (bn (o131 P) (bn (o197 P) (bn (o329 P) bz bz) bz) (bn (o265 P) bz bz))))) (bn (o3 P) (bn (o13 P) (bn (o32 P) (bn (o70 P) (bn (o145 P) (bn (o277 P) bz bz) bz) (bn (o209 P) bz bz)) (bn (o111 P) (bn (o177 P) (bn (o309 P) bz bz) bz) (bn (o245 P) bz bz))) (bn (o51 P) (bn (o92 P) (bn (o161 P) (bn (o293 P) bz bz) bz) (bn (o227 P) bz bz)) (bn (o127 P) (bn (o193 P) (bn (o325 P) bz bz) bz) (bn (o261 P) bz bz)))) (bn (o21 P) (bn (o40 P) (bn (o81 P) (bn (o153 P) (bn (o285 P) bz bz) bz) (bn (o219 P) bz bz)) (bn (o119 P) (bn (o185 P) (bn (o317 P) bz bz) bz) (bn (o253 P) bz bz))) (bn (o62 P) (bn (o100 P) (bn (o169 P) (bn (o301 P) bz bz) bz) (bn (o235 P) bz bz)) (bn (o135 P) (bn (o201 P) (bn (o333 P) bz bz) bz) (bn (o269 P) bz bz))))))))
theorem pc10 : Hd.Pc pp env T9 225 478 T10 322 596 575 [tp 24] ⟨95, 0, 103, 16⟩ ⟨104, 0, 165, 19⟩ := by
  intro w
  kernel_rfl
def o337 (P : Params) : Obj := ⟨.type "dict",none,.dict #[en P "__name__" 165 (.str "roomward.rules" 596),en P "__doc__" 166 .none,en P "__package__" 167 .none,en P "__loader__" 168 (.builtin "__main__.__loader__#opaque"),en P "__spec__" 169 .none,en P "__annotations__" 170 (.ref 6),en P "__builtins__" 171 (.ref 4),en P "__file__" 173 (.str "/claim/cut.py" 172),en P "__cached__" 174 .none,en P "_wall" 193 (.ref 21),en P "WardError" 213 (.ref 31),en P "NoName" 229 (.ref 44),en P "NoDeed" 245 (.ref 56),en P "NoRoom" 261 (.ref 68),en P "TwiceTold" 277 (.ref 80),en P "TooMany" 293 (.ref 92),en P "NoRule" 309 (.ref 104),en P "LETTERS" 313 (.str "abcdefghijklmnopqrstuvwxyz" 312),en P "FIGURES" 315 (.str "0123456789" 314),en P "MOST_SIGNS" 317 (.int 8 316),en P "MOST_DEEDS" 319 (.int 12 318),en P "is_name" 325 (.ref 111),en P "refuse_names" 334 (.ref 118),en P "weights_of" 344 (.ref 125),en P "marks_of" 353 (.ref 132),en P "Deeds" 440 (.ref 199),en P "MOST_ROOMS" 444 (.int 60 443),en P "named_rooms" 457 (.ref 210),en P "refuse_rooms" 465 (.ref 217),en P "leads_of" 477 (.ref 224),en P "Machine" 595 (.ref 317),en P "MOST_TIMES" 599 (.int 6 598),en P "is_times" 606 (.ref 328),en P "Rule" 640 (.ref 352)] 34,#[]⟩
def o338 (P : Params) : Obj := ⟨.none,none,.fields #[.int 1 0,.int 0 0,.ref 20,.int 5 0,.int 0 0,.ref 27,.int 7 0,.int 0 0,.ref 40,.int 9 0,.int 0 0,.ref 52,.int 11 0,.int 0 0,.ref 64,.int 13 0,.int 0 0,.ref 76,.int 15 0,.int 0 0,.ref 88,.int 17 0,.int 0 0,.ref 100,.int 24 0,.int 0 0,.ref 110,.int 29 0,.int 0 0,.ref 117,.int 39 0,.int 0 0,.ref 124,.int 46 0,.int 0 0,.ref 131,.int 51 0,.int 0 0,.ref 138,.int 84 0,.int 0 0,.ref 209,.int 91 0,.int 0 0,.ref 216,.int 95 0,.int 0 0,.ref 223,.int 104 0,.int 0 0,.ref 230,.int 168 0,.int 0 0,.ref 327,.int 170 0,.int 0 0,.ref 334],#[]⟩
def o339 (P : Params) : Obj := ⟨.type "tuple",none,.seq #[] 0,#[]⟩
def o340 (P : Params) : Obj := ⟨.none,none,.fields #[],#[]⟩
def o341 (P : Params) : Obj := ⟨.type "tuple",none,.seq #[.str "thing" 603] 0,#[]⟩
def o342 (P : Params) : Obj := ⟨.type "tuple",none,.seq #[] 0,#[]⟩
def o343 (P : Params) : Obj := ⟨.none,none,.func ⟨"is_times","is_times",defArgs (tp 27),.stmts (defBody (tp 27)),defScope (tp 27),0,[],.none,.none,.none,.none,none,.none,.none,0⟩,#[]⟩
def o344 (P : Params) : Obj := ⟨.type "code",none,.fields #[.str "is_times" 600,.str "is_times" 601,.str "/claim/cut.py" 602,.int 168 0,.int 1 0,.int 0 0,.int 0 0,.int 3 0,.ref 322,.bool true,.int 181 0,.ref 323,.none,.ref 324,.ref 325,.ref 326,.int 604 0,.int 168 0,.str "/claim/cut.py" 605],#[]⟩
def o345 (P : Params) : Obj := ⟨.type "function",none,.func ⟨"is_times","is_times",defArgs (tp 27),.stmts (defBody (tp 27)),defScope (tp 27),3,[],.none,.none,.none,.str "roomward.rules" 596,none,.ref 327,.none,0⟩,#[]⟩
def o346 (P : Params) : Obj := ⟨.type "tuple",none,.seq #[] 0,#[]⟩
def o347 (P : Params) : Obj := ⟨.type "builtin_function_or_method",none,.fields #[.builtin "type.__prepare__",.type "type"],#[]⟩
def o348 (P : Params) : Obj := ⟨.type "dict",none,.dict #[en P "__module__" 614 (.str "roomward.rules" 596),en P "__qualname__" 616 (.str "Rule" 615),en P "__firstlineno__" 618 (.int 170 617),en P "about" 625 (.ref 342),en P "deep" 632 (.ref 349),en P "__static_attributes__" 633 (.ref 350)] 6,#[]⟩
def o349 (P : Params) : Obj := ⟨.type "tuple",none,.seq #[] 0,#[]⟩
def o350 (P : Params) : Obj := ⟨.none,none,.fields #[.int 172 0,.int 4 0,.ref 341,.int 175 0,.int 4 0,.ref 348],#[]⟩
def o351 (P : Params) : Obj := ⟨.type "code",none,.fields #[.str "Rule" 609,.str "Rule" 610,.str "/claim/cut.py" 611,.int 170 0,.int 0 0,.int 0 0,.int 0 0,.int 0 0,.ref 332,.bool false,.int 181 0,.ref 333,.none,.none,.none,.none,.int 612 0,.int 170 0,.str "/claim/cut.py" 613],#[]⟩
def o352 (P : Params) : Obj := ⟨.type "frame",none,.plain,#[(some (.ref 334)),(some (.ref 3)),(some (.ref 331)),none,(some (.str "roomward.rules" 596)),none,(some (.ref 0))]⟩
def o353 (P : Params) : Obj := ⟨.type "tuple",none,.seq #[] 0,#[]⟩
def o354 (P : Params) : Obj := ⟨.none,none,.fields #[],#[]⟩
def o355 (P : Params) : Obj := ⟨.type "tuple",none,.seq #[.str "self" 622] 0,#[]⟩
def o356 (P : Params) : Obj := ⟨.type "tuple",none,.seq #[] 0,#[]⟩
def o357 (P : Params) : Obj := ⟨.none,none,.func ⟨"about","Rule.about",defArgs (inClass (tp 28) 0),.stmts (defBody (inClass (tp 28) 0)),defScope (inClass (tp 28) 0),0,[],.none,.none,.none,.none,none,.none,.none,0⟩,#[]⟩
def o358 (P : Params) : Obj := ⟨.type "code",none,.fields #[.str "about" 619,.str "Rule.about" 620,.str "/claim/cut.py" 621,.int 172 0,.int 1 0,.int 0 0,.int 0 0,.int 3 0,.ref 336,.bool true,.int 181 0,.ref 337,.none,.ref 338,.ref 339,.ref 340,.int 623 0,.int 172 0,.str "/claim/cut.py" 624],#[]⟩
def o359 (P : Params) : Obj := ⟨.type "function",none,.func ⟨"about","Rule.about",defArgs (inClass (tp 28) 0),.stmts (defBody (inClass (tp 28) 0)),defScope (inClass (tp 28) 0),3,[],.none,.none,.none,.str "roomward.rules" 596,none,.ref 341,.none,0⟩,#[]⟩
def o360 (P : Params) : Obj := ⟨.type "tuple",none,.seq #[] 0,#[]⟩
def o361 (P : Params) : Obj := ⟨.none,none,.fields #[],#[]⟩
def o362 (P : Params) : Obj := ⟨.type "tuple",none,.seq #[.str "self" 629] 0,#[]⟩
def o363 (P : Params) : Obj := ⟨.type "tuple",none,.seq #[] 0,#[]⟩
def o364 (P : Params) : Obj := ⟨.none,none,.func ⟨"deep","Rule.deep",defArgs (inClass (tp 28) 1),.stmts (defBody (inClass (tp 28) 1)),defScope (inClass (tp 28) 1),0,[],.none,.none,.none,.none,none,.none,.none,0⟩,#[]⟩
def o365 (P : Params) : Obj := ⟨.type "code",none,.fields #[.str "deep" 626,.str "Rule.deep" 627,.str "/claim/cut.py" 628,.int 175 0,.int 1 0,.int 0 0,.int 0 0,.int 3 0,.ref 343,.bool true,.int 181 0,.ref 344,.none,.ref 345,.ref 346,.ref 347,.int 630 0,.int 175 0,.str "/claim/cut.py" 631],#[]⟩
def o366 (P : Params) : Obj := ⟨.type "function",none,.func ⟨"deep","Rule.deep",defArgs (inClass (tp 28) 1),.stmts (defBody (inClass (tp 28) 1)),defScope (inClass (tp 28) 1),3,[],.none,.none,.none,.str "roomward.rules" 596,none,.ref 348,.none,0⟩,#[]⟩
def o367 (P : Params) : Obj := ⟨.type "tuple",none,.seq #[] 0,#[]⟩
def o368 (P : Params) : Obj := ⟨.type "dict",none,.dict #[en P "__module__" 614 (.str "roomward.rules" 596),en P "__firstlineno__" 618 (.int 170 617),en P "about" 625 (.ref 342),en P "deep" 632 (.ref 349),en P "__static_attributes__" 633 (.ref 350),en P "__dict__" 635 (.ref 353),en P "__weakref__" 637 (.ref 354),en P "__doc__" 638 .none] 4,#[]⟩
def o369 (P : Params) : Obj := ⟨.type "type",none,.cls ⟨"Rule",[.type "object"],[.ref 352,.type "object"],351,"Rule",true,[],[],false,none,false⟩,#[none,none,(some (.str "Rule" 607)),(some (.str "Rule" 615)),(some (.builtin "object.__new__")),(some (.bool true))]⟩
def o370 (P : Params) : Obj := ⟨.type "getset_descriptor",none,.fields #[.str "__dict__" 634,.ref 352,.builtin "function.__dict__",.builtin "function.__dict__#set"],#[]⟩
def o371 (P : Params) : Obj := ⟨.type "getset_descriptor",none,.fields #[.str "__weakref__" 636,.ref 352,.builtin "ExceptionGroup.__weakref__",.none],#[]⟩
def o372 (P : Params) : Obj := ⟨.type "super",none,.fields #[.ref 352,.ref 352,.ref 352],#[]⟩
def o373 (P : Params) : Obj := ⟨.type "builtin_function_or_method",none,.fields #[.builtin "object.__init_subclass__",.ref 352],#[]⟩
noncomputable def T11 (P : Params) : BT := (bn (boot_o_0 P) (bn (boot_o_1 P) (bn (o337 P) (bn (boot_o_7 P) (bn (o6 P) (bn (o103 P) (bn (o63 P) (bn (o136 P) (bn (o270 P) bz bz) bz) (bn (o202 P) (bn (o334 P) bz bz) bz)) (bn (o104 P) (bn (o170 P) (bn (o302 P) bz bz) bz) (bn (o236 P) (bn (o368 P) bz bz) bz))) (bn (o44 P) (bn (o82 P) (bn (o154 P) (bn (o286 P) bz bz) bz) (bn (o220 P) (bn (o352 P) bz bz) bz)) (bn (o120 P) (bn (o186 P) (bn (o318 P) bz bz) bz) (bn (o254 P) bz bz)))) (bn (o14 P) (bn (o33 P) (bn (o74 P) (bn (o146 P) (bn (o278 P) bz bz) bz) (bn (o210 P) (bn (o344 P) bz bz) bz)) (bn (o112 P) (bn (o178 P) (bn (o310 P) bz bz) bz) (bn (o246 P) bz bz))) (bn (o52 P) (bn (o93 P) (bn (o162 P) (bn (o294 P) bz bz) bz) (bn (o228 P) (bn (o360 P) bz bz) bz)) (bn (o128 P) (bn (o194 P) (bn (o326 P) bz bz) bz) (bn (o262 P) bz bz))))) (bn (o0 P) (bn (o10 P) (bn (o29 P) (bn (o67 P) (bn (o140 P) (bn (o274 P) bz bz) bz) (bn (o206 P) (bn (o340 P) bz bz) bz)) (bn (o108 P) (bn (o174 P) (bn (o306 P) bz bz) bz) (bn (o242 P) (bn (o372 P) bz bz) bz))) (bn (o48 P) (bn (o89 P) (bn (o158 P) (bn (o290 P) bz bz) bz) (bn (o224 P) (bn (o356 P) bz bz) bz)) (bn (o124 P) (bn (o190 P) (bn (o322 P) bz bz) bz) (bn (o258 P) bz bz)))) (bn (o18 P) (bn (o37 P) (bn (o78 P) (bn (o150 P) (bn (o282 P) bz bz) bz) (bn (o214 P) (bn (o348 P) bz bz) bz)) (bn (o116 P) (bn (o182 P) (bn (o314 P) bz bz) bz) (bn (o250 P) bz bz))) (bn (o59 P) (bn (o97 P) (bn (o166 P) (bn (o298 P) bz bz) bz) (bn (o232 P) (bn (o364 P) bz bz) bz)) (bn (o132 P) (bn (o198 P) (bn (o330 P) bz bz) bz) (bn (o266 P) bz bz)))))) (bn (boot_o_5 P) (bn (boot_o_9 P) (bn (o8 P) (bn (o24 P) (bn (o65 P) (bn (o138 P) (bn (o272 P) bz bz) bz) (bn (o204 P) (bn (o336 P) bz bz) bz)) (bn (o106 P) (bn (o172 P) (bn (o304 P) bz bz) bz) (bn (o240 P) (bn (o370 P) bz bz) bz))) (bn (o46 P) (bn (o84 P) (bn (o156 P) (bn (o288 P) bz bz) bz) (bn (o222 P) (bn (o354 P) bz bz) bz)) (bn (o122 P) (bn (o188 P) (bn (o320 P) bz bz) bz) (bn (o256 P) bz bz)))) (bn (o16 P) (bn (o35 P) (bn (o76 P) (bn (o148 P) (bn (o280 P) bz bz) bz) (bn (o212 P) (bn (o346 P) bz bz) bz)) (bn (o114 P) (bn (o180 P) (bn (o312 P) bz bz) bz) (bn (o248 P) bz bz))) (bn (o54 P) (bn (o95 P) (bn (o164 P) (bn (o296 P) bz bz) bz) (bn (o230 P) (bn (o362 P) bz bz) bz)) (bn (o130 P) (bn (o196 P) (bn (o328 P) bz bz) bz) (bn (o264 P) bz bz))))) (bn (o2 P) (bn (o12 P) (bn (o31 P) (bn (o69 P) (bn (o144 P) (bn (o276 P) bz bz) bz) (bn (o208 P) (bn (o342 P) bz bz) bz)) (bn (o110 P) (bn (o176 P) (bn (o308 P) bz bz) bz) (bn (o244 P) bz bz))) (bn (o50 P) (bn (o91 P) (bn (o160 P) (bn (o292 P) bz bz) bz) (bn (o226 P) (bn (o358 P) bz bz) bz)) (bn (o126 P) (bn (o192 P) (bn (o324 P) bz bz) bz) (bn (o260 P) bz bz)))) (bn (o20 P) (bn (o39 P) (bn (o80 P) (bn (o152 P) (bn (o284 P) bz bz) bz) (bn (o218 P) (bn (o350 P) bz bz) bz)) (bn (o118 P) (bn (o184 P) (bn (o316 P) bz bz) bz) (bn (o252 P) bz bz))) (bn (o61 P) (bn (o99 P) (bn (o168 P) (bn (o300 P) bz bz) bz) (bn (o234 P) (bn (o366 P) bz bz) bz)) (bn (o134 P) (bn (o200 P) (bn (o332 P) bz bz) bz) (bn (o268 P) bz bz))))))) (bn (boot_o_2 P) (bn (boot_o_4 P) (bn (boot_o_8 P) (bn (o7 P) (bn (o23 P) (bn (o64 P) (bn (o137 P) (bn (o271 P) bz bz) bz) (bn (o203 P) (bn (o335 P) bz bz) bz)) (bn (o105 P) (bn (o171 P) (bn (o303 P) bz bz) bz) (bn (o237 P) (bn (o369 P) bz bz) bz))) (bn (o45 P) (bn (o83 P) (bn (o155 P) (bn (o287 P) bz bz) bz) (bn (o221 P) (bn (o353 P) bz bz) bz)) (bn (o121 P) (bn (o187 P) (bn (o319 P) bz bz) bz) (bn (o255 P) bz bz)))) (bn (o15 P) (bn (o34 P) (bn (o75 P) (bn (o147 P) (bn (o279 P) bz bz) bz) (bn (o211 P) (bn (o345 P) bz bz) bz)) (bn (o113 P) (bn (o179 P) (bn (o311 P) bz bz) bz) (bn (o247 P) bz bz))) (bn (o53 P) (bn (o94 P) (bn (o163 P) (bn (o295 P) bz bz) bz) (bn (o229 P) (bn (o361 P) bz bz) bz)) (bn (o129 P) (bn (o195 P) (bn (o327 P) bz bz) bz) (bn (o263 P) bz bz))))) (bn (o338 P) (bn (o11 P) (bn (o30 P) (bn (o68 P) (bn (o141 P) (bn (o275 P) bz bz) bz) (bn (o207 P) (bn (o341 P) bz bz) bz)) (bn (o109 P) (bn (o175 P) (bn (o307 P) bz bz) bz) (bn (o243 P) (bn (o373 P) bz bz) bz))) (bn (o49 P) (bn (o90 P) (bn (o159 P) (bn (o291 P) bz bz) bz) (bn (o225 P) (bn (o357 P) bz bz) bz)) (bn (o125 P) (bn (o191 P) (bn (o323 P) bz bz) bz) (bn (o259 P) bz bz)))) (bn (o19 P) (bn (o38 P) (bn (o79 P) (bn (o151 P) (bn (o283 P) bz bz) bz) (bn (o217 P) (bn (o349 P) bz bz) bz)) (bn (o117 P) (bn (o183 P) (bn (o315 P) bz bz) bz) (bn (o251 P) bz bz))) (bn (o60 P) (bn (o98 P) (bn (o167 P) (bn (o299 P) bz bz) bz) (bn (o233 P) (bn (o365 P) bz bz) bz)) (bn (o133 P) (bn (o199 P) (bn (o331 P) bz bz) bz) (bn (o267 P) bz bz)))))) (bn (boot_o_6 P) (bn (boot_o_10 P) (bn (o9 P) (bn (o25 P) (bn (o66 P) (bn (o139 P) (bn (o273 P) bz bz) bz) (bn (o205 P) (bn (o339 P) bz bz) bz)) (bn (o107 P) (bn (o173 P) (bn (o305 P) bz bz) bz) (bn (o241 P) (bn (o371 P) bz bz) bz))) (bn (o47 P) (bn (o85 P) (bn (o157 P) (bn (o289 P) bz bz) bz) (bn (o223 P) (bn (o355 P) bz bz) bz)) (bn (o123 P) (bn (o189 P) (bn (o321 P) bz bz) bz) (bn (o257 P) bz bz)))) (bn (o17 P) (bn (o36 P) (bn (o77 P) (bn (o149 P) (bn (o281 P) bz bz) bz) (bn (o213 P) (bn (o347 P) bz bz) bz)) (bn (o115 P) (bn (o181 P) (bn (o313 P) bz bz) bz) (bn (o249 P) bz bz))) (bn (o55 P) (bn (o96 P) (bn (o165 P) (bn (o297 P) bz bz) bz) (bn (o231 P) (bn (o363 P) bz bz) bz)) (bn (o131 P) (bn (o197 P) (bn (o329 P) bz bz) bz) (bn (o265 P) bz bz))))) (bn (o3 P) (bn (o13 P) (bn (o32 P) (bn (o70 P) (bn (o145 P) (bn (o277 P) bz bz) bz) (bn (o209 P) (bn (o343 P) bz bz) bz)) (bn (o111 P) (bn (o177 P) (bn (o309 P) bz bz) bz) (bn (o245 P) bz bz))) (bn (o51 P) (bn (o92 P) (bn (o161 P) (bn (o293 P) bz bz) bz) (bn (o227 P) (bn (o359 P) bz bz) bz)) (bn (o127 P) (bn (o193 P) (bn (o325 P) bz bz) bz) (bn (o261 P) bz bz)))) (bn (o21 P) (bn (o40 P) (bn (o81 P) (bn (o153 P) (bn (o285 P) bz bz) bz) (bn (o219 P) (bn (o351 P) bz bz) bz)) (bn (o119 P) (bn (o185 P) (bn (o317 P) bz bz) bz) (bn (o253 P) bz bz))) (bn (o62 P) (bn (o100 P) (bn (o169 P) (bn (o301 P) bz bz) bz) (bn (o235 P) (bn (o367 P) bz bz) bz)) (bn (o135 P) (bn (o201 P) (bn (o333 P) bz bz) bz) (bn (o269 P) bz bz))))))))
theorem pc11 : Hd.Pc pp env T10 322 596 T11 357 641 299 [tp 25, tp 26, tp 27, tp 28] ⟨104, 0, 165, 19⟩ ⟨170, 0, 176, 16⟩ := by
  intro w
  kernel_rfl
def o374 (P : Params) : Obj := ⟨.type "dict",none,.dict #[en P "__name__" 165 (.str "roomward.rules" 596),en P "__doc__" 166 .none,en P "__package__" 167 .none,en P "__loader__" 168 (.builtin "__main__.__loader__#opaque"),en P "__spec__" 169 .none,en P "__annotations__" 170 (.ref 6),en P "__builtins__" 171 (.ref 4),en P "__file__" 173 (.str "/claim/cut.py" 172),en P "__cached__" 174 .none,en P "_wall" 193 (.ref 21),en P "WardError" 213 (.ref 31),en P "NoName" 229 (.ref 44),en P "NoDeed" 245 (.ref 56),en P "NoRoom" 261 (.ref 68),en P "TwiceTold" 277 (.ref 80),en P "TooMany" 293 (.ref 92),en P "NoRule" 309 (.ref 104),en P "LETTERS" 313 (.str "abcdefghijklmnopqrstuvwxyz" 312),en P "FIGURES" 315 (.str "0123456789" 314),en P "MOST_SIGNS" 317 (.int 8 316),en P "MOST_DEEDS" 319 (.int 12 318),en P "is_name" 325 (.ref 111),en P "refuse_names" 334 (.ref 118),en P "weights_of" 344 (.ref 125),en P "marks_of" 353 (.ref 132),en P "Deeds" 440 (.ref 199),en P "MOST_ROOMS" 444 (.int 60 443),en P "named_rooms" 457 (.ref 210),en P "refuse_rooms" 465 (.ref 217),en P "leads_of" 477 (.ref 224),en P "Machine" 595 (.ref 317),en P "MOST_TIMES" 599 (.int 6 598),en P "is_times" 606 (.ref 328),en P "Rule" 640 (.ref 352),en P "Never" 680 (.ref 387)] 35,#[]⟩
def o375 (P : Params) : Obj := ⟨.none,none,.fields #[.int 1 0,.int 0 0,.ref 20,.int 5 0,.int 0 0,.ref 27,.int 7 0,.int 0 0,.ref 40,.int 9 0,.int 0 0,.ref 52,.int 11 0,.int 0 0,.ref 64,.int 13 0,.int 0 0,.ref 76,.int 15 0,.int 0 0,.ref 88,.int 17 0,.int 0 0,.ref 100,.int 24 0,.int 0 0,.ref 110,.int 29 0,.int 0 0,.ref 117,.int 39 0,.int 0 0,.ref 124,.int 46 0,.int 0 0,.ref 131,.int 51 0,.int 0 0,.ref 138,.int 84 0,.int 0 0,.ref 209,.int 91 0,.int 0 0,.ref 216,.int 95 0,.int 0 0,.ref 223,.int 104 0,.int 0 0,.ref 230,.int 168 0,.int 0 0,.ref 327,.int 170 0,.int 0 0,.ref 334,.int 177 0,.int 0 0,.ref 362],#[]⟩
def o376 (P : Params) : Obj := ⟨.type "type",none,.cls ⟨"Rule",[.type "object"],[.ref 352,.type "object"],351,"Rule",true,[],[.ref 387],false,none,false⟩,#[none,none,(some (.str "Rule" 607)),(some (.str "Rule" 615)),(some (.builtin "object.__new__")),(some (.bool true))]⟩
def o377 (P : Params) : Obj := ⟨.type "tuple",none,.seq #[.ref 352] 0,#[]⟩
def o378 (P : Params) : Obj := ⟨.type "builtin_function_or_method",none,.fields #[.builtin "type.__prepare__",.type "type"],#[]⟩
def o379 (P : Params) : Obj := ⟨.type "dict",none,.dict #[en P "__module__" 648 (.str "roomward.rules" 596),en P "__qualname__" 650 (.str "Never" 649),en P "__firstlineno__" 652 (.int 177 651),en P "__init__" 660 (.ref 370),en P "about" 667 (.ref 377),en P "machine" 675 (.ref 384),en P "__static_attributes__" 677 (.ref 385)] 7,#[]⟩
def o380 (P : Params) : Obj := ⟨.type "tuple",none,.seq #[] 0,#[]⟩
def o381 (P : Params) : Obj := ⟨.none,none,.fields #[.int 179 0,.int 4 0,.ref 369,.int 182 0,.int 4 0,.ref 376,.int 185 0,.int 4 0,.ref 383],#[]⟩
def o382 (P : Params) : Obj := ⟨.type "code",none,.fields #[.str "Never" 643,.str "Never" 644,.str "/claim/cut.py" 645,.int 177 0,.int 0 0,.int 0 0,.int 0 0,.int 0 0,.ref 360,.bool false,.int 181 0,.ref 361,.none,.none,.none,.none,.int 646 0,.int 177 0,.str "/claim/cut.py" 647],#[]⟩
def o383 (P : Params) : Obj := ⟨.type "frame",none,.plain,#[(some (.ref 362)),(some (.ref 3)),(some (.ref 359)),none,(some (.str "roomward.rules" 596)),none,(some (.ref 0))]⟩
def o384 (P : Params) : Obj := ⟨.type "tuple",none,.seq #[] 0,#[]⟩
def o385 (P : Params) : Obj := ⟨.none,none,.fields #[],#[]⟩
def o386 (P : Params) : Obj := ⟨.type "tuple",none,.seq #[.str "self" 656,.str "deed" 657] 0,#[]⟩
def o387 (P : Params) : Obj := ⟨.type "tuple",none,.seq #[] 0,#[]⟩
def o388 (P : Params) : Obj := ⟨.none,none,.func ⟨"__init__","Never.__init__",defArgs (inClass (tp 29) 0),.stmts (defBody (inClass (tp 29) 0)),defScope (inClass (tp 29) 0),0,[],.none,.none,.none,.none,none,.none,.none,0⟩,#[]⟩
def o389 (P : Params) : Obj := ⟨.type "code",none,.fields #[.str "__init__" 653,.str "Never.__init__" 654,.str "/claim/cut.py" 655,.int 179 0,.int 2 0,.int 0 0,.int 0 0,.int 3 0,.ref 364,.bool true,.int 181 0,.ref 365,.none,.ref 366,.ref 367,.ref 368,.int 658 0,.int 179 0,.str "/claim/cut.py" 659],#[]⟩
def o390 (P : Params) : Obj := ⟨.type "function",none,.func ⟨"__init__","Never.__init__",defArgs (inClass (tp 29) 0),.stmts (defBody (inClass (tp 29) 0)),defScope (inClass (tp 29) 0),3,[],.none,.none,.none,.str "roomward.rules" 596,none,.ref 369,.none,0⟩,#[]⟩
def o391 (P : Params) : Obj := ⟨.type "tuple",none,.seq #[] 0,#[]⟩
def o392 (P : Params) : Obj := ⟨.none,none,.fields #[],#[]⟩
def o393 (P : Params) : Obj := ⟨.type "tuple",none,.seq #[.str "self" 664] 0,#[]⟩
def o394 (P : Params) : Obj := ⟨.type "tuple",none,.seq #[] 0,#[]⟩
def o395 (P : Params) : Obj := ⟨.none,none,.func ⟨"about","Never.about",defArgs (inClass (tp 29) 1),.stmts (defBody (inClass (tp 29) 1)),defScope (inClass (tp 29) 1),0,[],.none,.none,.none,.none,none,.none,.none,0⟩,#[]⟩
def o396 (P : Params) : Obj := ⟨.type "code",none,.fields #[.str "about" 661,.str "Never.about" 662,.str "/claim/cut.py" 663,.int 182 0,.int 1 0,.int 0 0,.int 0 0,.int 3 0,.ref 371,.bool true,.int 181 0,.ref 372,.none,.ref 373,.ref 374,.ref 375,.int 665 0,.int 182 0,.str "/claim/cut.py" 666],#[]⟩
def o397 (P : Params) : Obj := ⟨.type "function",none,.func ⟨"about","Never.about",defArgs (inClass (tp 29) 1),.stmts (defBody (inClass (tp 29) 1)),defScope (inClass (tp 29) 1),3,[],.none,.none,.none,.str "roomward.rules" 596,none,.ref 376,.none,0⟩,#[]⟩
def o398 (P : Params) : Obj := ⟨.type "tuple",none,.seq #[] 0,#[]⟩
def o399 (P : Params) : Obj := ⟨.none,none,.fields #[],#[]⟩
def o400 (P : Params) : Obj := ⟨.type "tuple",none,.seq #[.str "self" 671,.str "deeds" 672] 0,#[]⟩
def o401 (P : Params) : Obj := ⟨.type "tuple",none,.seq #[] 0,#[]⟩
def o402 (P : Params) : Obj := ⟨.none,none,.func ⟨"machine","Never.machine",defArgs (inClass (tp 29) 2),.stmts (defBody (inClass (tp 29) 2)),defScope (inClass (tp 29) 2),0,[],.none,.none,.none,.none,none,.none,.none,0⟩,#[]⟩
def o403 (P : Params) : Obj := ⟨.type "code",none,.fields #[.str "machine" 668,.str "Never.machine" 669,.str "/claim/cut.py" 670,.int 185 0,.int 2 0,.int 0 0,.int 0 0,.int 3 0,.ref 378,.bool true,.int 181 0,.ref 379,.none,.ref 380,.ref 381,.ref 382,.int 673 0,.int 185 0,.str "/claim/cut.py" 674],#[]⟩
def o404 (P : Params) : Obj := ⟨.type "function",none,.func ⟨"machine","Never.machine",defArgs (inClass (tp 29) 2),.stmts (defBody (inClass (tp 29) 2)),defScope (inClass (tp 29) 2),3,[],.none,.none,.none,.str "roomward.rules" 596,none,.ref 383,.none,0⟩,#[]⟩
def o405 (P : Params) : Obj := ⟨.type "tuple",none,.seq #[.str "deed" 676] 0,#[]⟩
def o406 (P : Params) : Obj := ⟨.type "dict",none,.dict #[en P "__module__" 648 (.str "roomward.rules" 596),en P "__firstlineno__" 652 (.int 177 651),en P "__init__" 660 (.ref 370),en P "about" 667 (.ref 377),en P "machine" 675 (.ref 384),en P "__static_attributes__" 677 (.ref 385),en P "__doc__" 678 .none] 2,#[]⟩
def o407 (P : Params) : Obj := ⟨.type "type",none,.cls ⟨"Never",[.ref 352],[.ref 387,.ref 352,.type "object"],386,"Never",true,[],[],false,none,false⟩,#[(some (.ref 357)),none,(some (.str "Never" 641)),(some (.str "Never" 649)),(some (.builtin "object.__new__")),(some (.bool true))]⟩
def o408 (P : Params) : Obj := ⟨.type "super",none,.fields #[.ref 387,.ref 387,.ref 387],#[]⟩
def o409 (P : Params) : Obj := ⟨.type "builtin_function_or_method",none,.fields #[.builtin "object.__init_subclass__",.ref 387],#[]⟩
noncomputable def T12 (P : Params) : BT := (bn (boot_o_0 P) (bn (boot_o_1 P) (bn (o374 P) (bn (boot_o_7 P) (bn (o6 P) (bn (o103 P) (bn (o63 P) (bn (o136 P) (bn (o270 P) bz bz) (bn (o403 P) bz bz)) (bn (o202 P) (bn (o334 P) bz bz) bz)) (bn (o104 P) (bn (o170 P) (bn (o302 P) bz bz) bz) (bn (o236 P) (bn (o368 P) bz bz) bz))) (bn (o44 P) (bn (o82 P) (bn (o154 P) (bn (o286 P) bz bz) bz) (bn (o220 P) (bn (o352 P) bz bz) bz)) (bn (o120 P) (bn (o186 P) (bn (o318 P) bz bz) bz) (bn (o254 P) (bn (o387 P) bz bz) bz)))) (bn (o14 P) (bn (o33 P) (bn (o74 P) (bn (o146 P) (bn (o278 P) bz bz) bz) (bn (o210 P) (bn (o344 P) bz bz) bz)) (bn (o112 P) (bn (o178 P) (bn (o310 P) bz bz) bz) (bn (o246 P) (bn (o379 P) bz bz) bz))) (bn (o52 P) (bn (o93 P) (bn (o162 P) (bn (o294 P) bz bz) bz) (bn (o228 P) (bn (o360 P) bz bz) bz)) (bn (o128 P) (bn (o194 P) (bn (o326 P) bz bz) bz) (bn (o262 P) (bn (o395 P) bz bz) bz))))) (bn (o0 P) (bn (o10 P) (bn (o29 P) (bn (o67 P) (bn (o140 P) (bn (o274 P) bz bz) (bn (o407 P) bz bz)) (bn (o206 P) (bn (o340 P) bz bz) bz)) (bn (o108 P) (bn (o174 P) (bn (o306 P) bz bz) bz) (bn (o242 P) (bn (o372 P) bz bz) bz))) (bn (o48 P) (bn (o89 P) (bn (o158 P) (bn (o290 P) bz bz) bz) (bn (o224 P) (bn (o356 P) bz bz) bz)) (bn (o124 P) (bn (o190 P) (bn (o322 P) bz bz) bz) (bn (o258 P) (bn (o391 P) bz bz) bz)))) (bn (o18 P) (bn (o37 P) (bn (o78 P) (bn (o150 P) (bn (o282 P) bz bz) bz) (bn (o214 P) (bn (o348 P) bz bz) bz)) (bn (o116 P) (bn (o182 P) (bn (o314 P) bz bz) bz) (bn (o250 P) (bn (o383 P) bz bz) bz))) (bn (o59 P) (bn (o97 P) (bn (o166 P) (bn (o298 P) bz bz) bz) (bn (o232 P) (bn (o364 P) bz bz) bz)) (bn (o132 P) (bn (o198 P) (bn (o330 P) bz bz) bz) (bn (o266 P) (bn (o399 P) bz bz) bz)))))) (bn (boot_o_5 P) (bn (boot_o_9 P) (bn (o8 P) (bn (o24 P) (bn (o65 P) (bn (o138 P) (bn (o272 P) bz bz) (bn (o405 P) bz bz)) (bn (o204 P) (bn (o336 P) bz bz) bz)) (bn (o106 P) (bn (o172 P) (bn (o304 P) bz bz) bz) (bn (o240 P) (bn (o370 P) bz bz) bz))) (bn (o46 P) (bn (o84 P) (bn (o156 P) (bn (o288 P) bz bz) bz) (bn (o222 P) (bn (o354 P) bz bz) bz)) (bn (o122 P) (bn (o188 P) (bn (o320 P) bz bz) bz) (bn (o256 P) (bn (o389 P) bz bz) bz)))) (bn (o16 P) (bn (o35 P) (bn (o76 P) (bn (o148 P) (bn (o280 P) bz bz) bz) (bn (o212 P) (bn (o346 P) bz bz) bz)) (bn (o114 P) (bn (o180 P) (bn (o312 P) bz bz) bz) (bn (o248 P) (bn (o381 P) bz bz) bz))) (bn (o54 P) (bn (o95 P) (bn (o164 P) (bn (o296 P) bz bz) bz) (bn (o230 P) (bn (o362 P) bz bz) bz)) (bn (o130 P) (bn (o196 P) (bn (o328 P) bz bz) bz) (bn (o264 P) (bn (o397 P) bz bz) bz))))) (bn (o2 P) (bn (o12 P) (bn (o31 P) (bn (o69 P) (bn (o144 P) (bn (o276 P) bz bz) (bn (o409 P) bz bz)) (bn (o208 P) (bn (o342 P) bz bz) bz)) (bn (o110 P) (bn (o176 P) (bn (o308 P) bz bz) bz) (bn (o244 P) (bn (o377 P) bz bz) bz))) (bn (o50 P) (bn (o91 P) (bn (o160 P) (bn (o292 P) bz bz) bz) (bn (o226 P) (bn (o358 P) bz bz) bz)) (bn (o126 P) (bn (o192 P) (bn (o324 P) bz bz) bz) (bn (o260 P) (bn (o393 P) bz bz) bz)))) (bn (o20 P) (bn (o39 P) (bn (o80 P) (bn (o152 P) (bn (o284 P) bz bz) bz) (bn (o218 P) (bn (o350 P) bz bz) bz)) (bn (o118 P) (bn (o184 P) (bn (o316 P) bz bz) bz) (bn (o252 P) (bn (o385 P) bz bz) bz))) (bn (o61 P) (bn (o99 P) (bn (o168 P) (bn (o300 P) bz bz) bz) (bn (o234 P) (bn (o366 P) bz bz) bz)) (bn (o134 P) (bn (o200 P) (bn (o332 P) bz bz) bz) (bn (o268 P) (bn (o401 P) bz bz) bz))))))) (bn (boot_o_2 P) (bn (boot_o_4 P) (bn (boot_o_8 P) (bn (o7 P) (bn (o23 P) (bn (o64 P) (bn (o137 P) (bn (o271 P) bz bz) (bn (o404 P) bz bz)) (bn (o203 P) (bn (o335 P) bz bz) bz)) (bn (o105 P) (bn (o171 P) (bn (o303 P) bz bz) bz) (bn (o237 P) (bn (o376 P) bz bz) bz))) (bn (o45 P) (bn (o83 P) (bn (o155 P) (bn (o287 P) bz bz) bz) (bn (o221 P) (bn (o353 P) bz bz) bz)) (bn (o121 P) (bn (o187 P) (bn (o319 P) bz bz) bz) (bn (o255 P) (bn (o388 P) bz bz) bz)))) (bn (o15 P) (bn (o34 P) (bn (o75 P) (bn (o147 P) (bn (o279 P) bz bz) bz) (bn (o211 P) (bn (o345 P) bz bz) bz)) (bn (o113 P) (bn (o179 P) (bn (o311 P) bz bz) bz) (bn (o247 P) (bn (o380 P) bz bz) bz))) (bn (o53 P) (bn (o94 P) (bn (o163 P) (bn (o295 P) bz bz) bz) (bn (o229 P) (bn (o361 P) bz bz) bz)) (bn (o129 P) (bn (o195 P) (bn (o327 P) bz bz) bz) (bn (o263 P) (bn (o396 P) bz bz) bz))))) (bn (o375 P) (bn (o11 P) (bn (o30 P) (bn (o68 P) (bn (o141 P) (bn (o275 P) bz bz) (bn (o408 P) bz bz)) (bn (o207 P) (bn (o341 P) bz bz) bz)) (bn (o109 P) (bn (o175 P) (bn (o307 P) bz bz) bz) (bn (o243 P) (bn (o373 P) bz bz) bz))) (bn (o49 P) (bn (o90 P) (bn (o159 P) (bn (o291 P) bz bz) bz) (bn (o225 P) (bn (o357 P) bz bz) bz)) (bn (o125 P) (bn (o191 P) (bn (o323 P) bz bz) bz) (bn (o259 P) (bn (o392 P) bz bz) bz)))) (bn (o19 P) (bn (o38 P) (bn (o79 P) (bn (o151 P) (bn (o283 P) bz bz) bz) (bn (o217 P) (bn (o349 P) bz bz) bz)) (bn (o117 P) (bn (o183 P) (bn (o315 P) bz bz) bz) (bn (o251 P) (bn (o384 P) bz bz) bz))) (bn (o60 P) (bn (o98 P) (bn (o167 P) (bn (o299 P) bz bz) bz) (bn (o233 P) (bn (o365 P) bz bz) bz)) (bn (o133 P) (bn (o199 P) (bn (o331 P) bz bz) bz) (bn (o267 P) (bn (o400 P) bz bz) bz)))))) (bn (boot_o_6 P) (bn (boot_o_10 P) (bn (o9 P) (bn (o25 P) (bn (o66 P) (bn (o139 P) (bn (o273 P) bz bz) (bn (o406 P) bz bz)) (bn (o205 P) (bn (o339 P) bz bz) bz)) (bn (o107 P) (bn (o173 P) (bn (o305 P) bz bz) bz) (bn (o241 P) (bn (o371 P) bz bz) bz))) (bn (o47 P) (bn (o85 P) (bn (o157 P) (bn (o289 P) bz bz) bz) (bn (o223 P) (bn (o355 P) bz bz) bz)) (bn (o123 P) (bn (o189 P) (bn (o321 P) bz bz) bz) (bn (o257 P) (bn (o390 P) bz bz) bz)))) (bn (o17 P) (bn (o36 P) (bn (o77 P) (bn (o149 P) (bn (o281 P) bz bz) bz) (bn (o213 P) (bn (o347 P) bz bz) bz)) (bn (o115 P) (bn (o181 P) (bn (o313 P) bz bz) bz) (bn (o249 P) (bn (o382 P) bz bz) bz))) (bn (o55 P) (bn (o96 P) (bn (o165 P) (bn (o297 P) bz bz) bz) (bn (o231 P) (bn (o363 P) bz bz) bz)) (bn (o131 P) (bn (o197 P) (bn (o329 P) bz bz) bz) (bn (o265 P) (bn (o398 P) bz bz) bz))))) (bn (o3 P) (bn (o13 P) (bn (o32 P) (bn (o70 P) (bn (o145 P) (bn (o277 P) bz bz) bz) (bn (o209 P) (bn (o343 P) bz bz) bz)) (bn (o111 P) (bn (o177 P) (bn (o309 P) bz bz) bz) (bn (o245 P) (bn (o378 P) bz bz) bz))) (bn (o51 P) (bn (o92 P) (bn (o161 P) (bn (o293 P) bz bz) bz) (bn (o227 P) (bn (o359 P) bz bz) bz)) (bn (o127 P) (bn (o193 P) (bn (o325 P) bz bz) bz) (bn (o261 P) (bn (o394 P) bz bz) bz)))) (bn (o21 P) (bn (o40 P) (bn (o81 P) (bn (o153 P) (bn (o285 P) bz bz) bz) (bn (o219 P) (bn (o351 P) bz bz) bz)) (bn (o119 P) (bn (o185 P) (bn (o317 P) bz bz) bz) (bn (o253 P) (bn (o386 P) bz bz) bz))) (bn (o62 P) (bn (o100 P) (bn (o169 P) (bn (o301 P) bz bz) bz) (bn (o235 P) (bn (o367 P) bz bz) bz)) (bn (o135 P) (bn (o201 P) (bn (o333 P) bz bz) bz) (bn (o269 P) (bn (o402 P) bz bz) bz))))))))
theorem pc12 : Hd.Pc pp env T11 357 641 T12 390 681 309 [tp 29] ⟨170, 0, 176, 16⟩ ⟨177, 0, 186, 61⟩ := by
  intro w
  kernel_rfl
def o410 (P : Params) : Obj := ⟨.type "dict",none,.dict #[en P "__name__" 165 (.str "roomward.rules" 596),en P "__doc__" 166 .none,en P "__package__" 167 .none,en P "__loader__" 168 (.builtin "__main__.__loader__#opaque"),en P "__spec__" 169 .none,en P "__annotations__" 170 (.ref 6),en P "__builtins__" 171 (.ref 4),en P "__file__" 173 (.str "/claim/cut.py" 172),en P "__cached__" 174 .none,en P "_wall" 193 (.ref 21),en P "WardError" 213 (.ref 31),en P "NoName" 229 (.ref 44),en P "NoDeed" 245 (.ref 56),en P "NoRoom" 261 (.ref 68),en P "TwiceTold" 277 (.ref 80),en P "TooMany" 293 (.ref 92),en P "NoRule" 309 (.ref 104),en P "LETTERS" 313 (.str "abcdefghijklmnopqrstuvwxyz" 312),en P "FIGURES" 315 (.str "0123456789" 314),en P "MOST_SIGNS" 317 (.int 8 316),en P "MOST_DEEDS" 319 (.int 12 318),en P "is_name" 325 (.ref 111),en P "refuse_names" 334 (.ref 118),en P "weights_of" 344 (.ref 125),en P "marks_of" 353 (.ref 132),en P "Deeds" 440 (.ref 199),en P "MOST_ROOMS" 444 (.int 60 443),en P "named_rooms" 457 (.ref 210),en P "refuse_rooms" 465 (.ref 217),en P "leads_of" 477 (.ref 224),en P "Machine" 595 (.ref 317),en P "MOST_TIMES" 599 (.int 6 598),en P "is_times" 606 (.ref 328),en P "Rule" 640 (.ref 352),en P "Never" 680 (.ref 387),en P "Most" 720 (.ref 418)] 36,#[]⟩
def o411 (P : Params) : Obj := ⟨.none,none,.fields #[.int 1 0,.int 0 0,.ref 20,.int 5 0,.int 0 0,.ref 27,.int 7 0,.int 0 0,.ref 40,.int 9 0,.int 0 0,.ref 52,.int 11 0,.int 0 0,.ref 64,.int 13 0,.int 0 0,.ref 76,.int 15 0,.int 0 0,.ref 88,.int 17 0,.int 0 0,.ref 100,.int 24 0,.int 0 0,.ref 110,.int 29 0,.int 0 0,.ref 117,.int 39 0,.int 0 0,.ref 124,.int 46 0,.int 0 0,.ref 131,.int 51 0,.int 0 0,.ref 138,.int 84 0,.int 0 0,.ref 209,.int 91 0,.int 0 0,.ref 216,.int 95 0,.int 0 0,.ref 223,.int 104 0,.int 0 0,.ref 230,.int 168 0,.int 0 0,.ref 327,.int 170 0,.int 0 0,.ref 334,.int 177 0,.int 0 0,.ref 362,.int 187 0,.int 0 0,.ref 395],#[]⟩
def o412 (P : Params) : Obj := ⟨.type "type",none,.cls ⟨"Rule",[.type "object"],[.ref 352,.type "object"],351,"Rule",true,[],[.ref 387,.ref 418],false,none,false⟩,#[none,none,(some (.str "Rule" 607)),(some (.str "Rule" 615)),(some (.builtin "object.__new__")),(some (.bool true))]⟩
def o413 (P : Params) : Obj := ⟨.type "tuple",none,.seq #[.ref 352] 0,#[]⟩
def o414 (P : Params) : Obj := ⟨.type "builtin_function_or_method",none,.fields #[.builtin "type.__prepare__",.type "type"],#[]⟩
def o415 (P : Params) : Obj := ⟨.type "dict",none,.dict #[en P "__module__" 688 (.str "roomward.rules" 596),en P "__qualname__" 690 (.str "Most" 689),en P "__firstlineno__" 692 (.int 187 691),en P "__init__" 701 (.ref 403),en P "about" 708 (.ref 410),en P "machine" 714 (.ref 415),en P "__static_attributes__" 717 (.ref 416)] 7,#[]⟩
def o416 (P : Params) : Obj := ⟨.type "tuple",none,.seq #[] 0,#[]⟩
def o417 (P : Params) : Obj := ⟨.none,none,.fields #[.int 189 0,.int 4 0,.ref 402,.int 195 0,.int 4 0,.ref 409,.int 198 0,.int 4 0,.ref 414],#[]⟩
def o418 (P : Params) : Obj := ⟨.type "code",none,.fields #[.str "Most" 683,.str "Most" 684,.str "/claim/cut.py" 685,.int 187 0,.int 0 0,.int 0 0,.int 0 0,.int 0 0,.ref 393,.bool false,.int 181 0,.ref 394,.none,.none,.none,.none,.int 686 0,.int 187 0,.str "/claim/cut.py" 687],#[]⟩
def o419 (P : Params) : Obj := ⟨.type "frame",none,.plain,#[(some (.ref 395)),(some (.ref 3)),(some (.ref 392)),none,(some (.str "roomward.rules" 596)),none,(some (.ref 0))]⟩
def o420 (P : Params) : Obj := ⟨.type "tuple",none,.seq #[] 0,#[]⟩
def o421 (P : Params) : Obj := ⟨.none,none,.fields #[],#[]⟩
def o422 (P : Params) : Obj := ⟨.type "tuple",none,.seq #[.str "self" 696,.str "deed" 697,.str "many" 698] 0,#[]⟩
def o423 (P : Params) : Obj := ⟨.type "tuple",none,.seq #[] 0,#[]⟩
def o424 (P : Params) : Obj := ⟨.none,none,.func ⟨"__init__","Most.__init__",defArgs (inClass (tp 30) 0),.stmts (defBody (inClass (tp 30) 0)),defScope (inClass (tp 30) 0),0,[],.none,.none,.none,.none,none,.none,.none,0⟩,#[]⟩
def o425 (P : Params) : Obj := ⟨.type "code",none,.fields #[.str "__init__" 693,.str "Most.__init__" 694,.str "/claim/cut.py" 695,.int 189 0,.int 3 0,.int 0 0,.int 0 0,.int 3 0,.ref 397,.bool true,.int 181 0,.ref 398,.none,.ref 399,.ref 400,.ref 401,.int 699 0,.int 189 0,.str "/claim/cut.py" 700],#[]⟩
def o426 (P : Params) : Obj := ⟨.type "function",none,.func ⟨"__init__","Most.__init__",defArgs (inClass (tp 30) 0),.stmts (defBody (inClass (tp 30) 0)),defScope (inClass (tp 30) 0),3,[],.none,.none,.none,.str "roomward.rules" 596,none,.ref 402,.none,0⟩,#[]⟩
def o427 (P : Params) : Obj := ⟨.type "tuple",none,.seq #[] 0,#[]⟩
def o428 (P : Params) : Obj := ⟨.none,none,.fields #[],#[]⟩
def o429 (P : Params) : Obj := ⟨.type "tuple",none,.seq #[.str "self" 705] 0,#[]⟩
def o430 (P : Params) : Obj := ⟨.type "tuple",none,.seq #[] 0,#[]⟩
def o431 (P : Params) : Obj := ⟨.none,none,.func ⟨"about","Most.about",defArgs (inClass (tp 30) 1),.stmts (defBody (inClass (tp 30) 1)),defScope (inClass (tp 30) 1),0,[],.none,.none,.none,.none,none,.none,.none,0⟩,#[]⟩
def o432 (P : Params) : Obj := ⟨.type "code",none,.fields #[.str "about" 702,.str "Most.about" 703,.str "/claim/cut.py" 704,.int 195 0,.int 1 0,.int 0 0,.int 0 0,.int 3 0,.ref 404,.bool true,.int 181 0,.ref 405,.none,.ref 406,.ref 407,.ref 408,.int 706 0,.int 195 0,.str "/claim/cut.py" 707],#[]⟩
def o433 (P : Params) : Obj := ⟨.type "function",none,.func ⟨"about","Most.about",defArgs (inClass (tp 30) 1),.stmts (defBody (inClass (tp 30) 1)),defScope (inClass (tp 30) 1),3,[],.none,.none,.none,.str "roomward.rules" 596,none,.ref 409,.none,0⟩,#[]⟩
def o434 (P : Params) : Obj := ⟨.type "tuple",none,.seq #[] 0,#[]⟩
def o435 (P : Params) : Obj := ⟨.none,none,.fields #[],#[]⟩
def o436 (P : Params) : Obj := ⟨.none,none,.func ⟨"machine","Most.machine",defArgs (inClass (tp 30) 2),.stmts (defBody (inClass (tp 30) 2)),defScope (inClass (tp 30) 2),0,[],.none,.none,.none,.none,none,.none,.none,0⟩,#[]⟩
def o437 (P : Params) : Obj := ⟨.type "code",none,.fields #[.str "machine" 709,.str "Most.machine" 710,.str "/claim/cut.py" 711,.int 198 0,.int 2 0,.int 0 0,.int 0 0,.int 3 0,.ref 411,.bool true,.int 181 0,.ref 412,.none,.none,.none,.ref 413,.int 712 0,.int 198 0,.str "/claim/cut.py" 713],#[]⟩
def o438 (P : Params) : Obj := ⟨.type "function",none,.func ⟨"machine","Most.machine",defArgs (inClass (tp 30) 2),.stmts (defBody (inClass (tp 30) 2)),defScope (inClass (tp 30) 2),3,[],.none,.none,.none,.str "roomward.rules" 596,none,.ref 414,.none,0⟩,#[]⟩
def o439 (P : Params) : Obj := ⟨.type "tuple",none,.seq #[.str "deed" 715,.str "many" 716] 0,#[]⟩
def o440 (P : Params) : Obj := ⟨.type "dict",none,.dict #[en P "__module__" 688 (.str "roomward.rules" 596),en P "__firstlineno__" 692 (.int 187 691),en P "__init__" 701 (.ref 403),en P "about" 708 (.ref 410),en P "machine" 714 (.ref 415),en P "__static_attributes__" 717 (.ref 416),en P "__doc__" 718 .none] 2,#[]⟩
def o441 (P : Params) : Obj := ⟨.type "type",none,.cls ⟨"Most",[.ref 352],[.ref 418,.ref 352,.type "object"],417,"Most",true,[],[],false,none,false⟩,#[(some (.ref 390)),none,(some (.str "Most" 681)),(some (.str "Most" 689)),(some (.builtin "object.__new__")),(some (.bool true))]⟩
def o442 (P : Params) : Obj := ⟨.type "super",none,.fields #[.ref 418,.ref 418,.ref 418],#[]⟩
def o443 (P : Params) : Obj := ⟨.type "builtin_function_or_method",none,.fields #[.builtin "object.__init_subclass__",.ref 418],#[]⟩
noncomputable def T13 (P : Params) : BT := (bn (boot_o_0 P) (bn (boot_o_1 P) (bn (o410 P) (bn (boot_o_7 P) (bn (o6 P) (bn (o103 P) (bn (o63 P) (bn (o136 P) (bn (o270 P) bz bz) (bn (o403 P) bz bz)) (bn (o202 P) (bn (o334 P) bz bz) bz)) (bn (o104 P) (bn (o170 P) (bn (o302 P) bz bz) (bn (o438 P) bz bz)) (bn (o236 P) (bn (o368 P) bz bz) bz))) (bn (o44 P) (bn (o82 P) (bn (o154 P) (bn (o286 P) bz bz) (bn (o422 P) bz bz)) (bn (o220 P) (bn (o352 P) bz bz) bz)) (bn (o120 P) (bn (o186 P) (bn (o318 P) bz bz) bz) (bn (o254 P) (bn (o387 P) bz bz) bz)))) (bn (o14 P) (bn (o33 P) (bn (o74 P) (bn (o146 P) (bn (o278 P) bz bz) (bn (o414 P) bz bz)) (bn (o210 P) (bn (o344 P) bz bz) bz)) (bn (o112 P) (bn (o178 P) (bn (o310 P) bz bz) bz) (bn (o246 P) (bn (o379 P) bz bz) bz))) (bn (o52 P) (bn (o93 P) (bn (o162 P) (bn (o294 P) bz bz) (bn (o430 P) bz bz)) (bn (o228 P) (bn (o360 P) bz bz) bz)) (bn (o128 P) (bn (o194 P) (bn (o326 P) bz bz) bz) (bn (o262 P) (bn (o395 P) bz bz) bz))))) (bn (o0 P) (bn (o10 P) (bn (o29 P) (bn (o67 P) (bn (o140 P) (bn (o274 P) bz bz) (bn (o407 P) bz bz)) (bn (o206 P) (bn (o340 P) bz bz) bz)) (bn (o108 P) (bn (o174 P) (bn (o306 P) bz bz) (bn (o442 P) bz bz)) (bn (o242 P) (bn (o372 P) bz bz) bz))) (bn (o48 P) (bn (o89 P) (bn (o158 P) (bn (o290 P) bz bz) (bn (o426 P) bz bz)) (bn (o224 P) (bn (o356 P) bz bz) bz)) (bn (o124 P) (bn (o190 P) (bn (o322 P) bz bz) bz) (bn (o258 P) (bn (o391 P) bz bz) bz)))) (bn (o18 P) (bn (o37 P) (bn (o78 P) (bn (o150 P) (bn (o282 P) bz bz) (bn (o418 P) bz bz)) (bn (o214 P) (bn (o348 P) bz bz) bz)) (bn (o116 P) (bn (o182 P) (bn (o314 P) bz bz) bz) (bn (o250 P) (bn (o383 P) bz bz) bz))) (bn (o59 P) (bn (o97 P) (bn (o166 P) (bn (o298 P) bz bz) (bn (o434 P) bz bz)) (bn (o232 P) (bn (o364 P) bz bz) bz)) (bn (o132 P) (bn (o198 P) (bn (o330 P) bz bz) bz) (bn (o266 P) (bn (o399 P) bz bz) bz)))))) (bn (boot_o_5 P) (bn (boot_o_9 P) (bn (o8 P) (bn (o24 P) (bn (o65 P) (bn (o138 P) (bn (o272 P) bz bz) (bn (o405 P) bz bz)) (bn (o204 P) (bn (o336 P) bz bz) bz)) (bn (o106 P) (bn (o172 P) (bn (o304 P) bz bz) (bn (o440 P) bz bz)) (bn (o240 P) (bn (o370 P) bz bz) bz))) (bn (o46 P) (bn (o84 P) (bn (o156 P) (bn (o288 P) bz bz) (bn (o424 P) bz bz)) (bn (o222 P) (bn (o354 P) bz bz) bz)) (bn (o122 P) (bn (o188 P) (bn (o320 P) bz bz) bz) (bn (o256 P) (bn (o389 P) bz bz) bz)))) (bn (o16 P) (bn (o35 P) (bn (o76 P) (bn (o148 P) (bn (o280 P) bz bz) (bn (o416 P) bz bz)) (bn (o212 P) (bn (o346 P) bz bz) bz)) (bn (o114 P) (bn (o180 P) (bn (o312 P) bz bz) bz) (bn (o248 P) (bn (o381 P) bz bz) bz))) (bn (o54 P) (bn (o95 P) (bn (o164 P) (bn (o296 P) bz bz) (bn (o432 P) bz bz)) (bn (o230 P) (bn (o362 P) bz bz) bz)) (bn (o130 P) (bn (o196 P) (bn (o328 P) bz bz) bz) (bn (o264 P) (bn (o397 P) bz bz) bz))))) (bn (o2 P) (bn (o12 P) (bn (o31 P) (bn (o69 P) (bn (o144 P) (bn (o276 P) bz bz) (bn (o409 P) bz bz)) (bn (o208 P) (bn (o342 P) bz bz) bz)) (bn (o110 P) (bn (o176 P) (bn (o308 P) bz bz) bz) (bn (o244 P) (bn (o377 P) bz bz) bz))) (bn (o50 P) (bn (o91 P) (bn (o160 P) (bn (o292 P) bz bz) (bn (o428 P) bz bz)) (bn (o226 P) (bn (o358 P) bz bz) bz)) (bn (o126 P) (bn (o192 P) (bn (o324 P) bz bz) bz) (bn (o260 P) (bn (o393 P) bz bz) bz)))) (bn (o20 P) (bn (o39 P) (bn (o80 P) (bn (o152 P) (bn (o284 P) bz bz) (bn (o420 P) bz bz)) (bn (o218 P) (bn (o350 P) bz bz) bz)) (bn (o118 P) (bn (o184 P) (bn (o316 P) bz bz) bz) (bn (o252 P) (bn (o385 P) bz bz) bz))) (bn (o61 P) (bn (o99 P) (bn (o168 P) (bn (o300 P) bz bz) (bn (o436 P) bz bz)) (bn (o234 P) (bn (o366 P) bz bz) bz)) (bn (o134 P) (bn (o200 P) (bn (o332 P) bz bz) bz) (bn (o268 P) (bn (o401 P) bz bz) bz))))))) (bn (boot_o_2 P) (bn (boot_o_4 P) (bn (boot_o_8 P) (bn (o7 P) (bn (o23 P) (bn (o64 P) (bn (o137 P) (bn (o271 P) bz bz) (bn (o404 P) bz bz)) (bn (o203 P) (bn (o335 P) bz bz) bz)) (bn (o105 P) (bn (o171 P) (bn (o303 P) bz bz) (bn (o439 P) bz bz)) (bn (o237 P) (bn (o412 P) bz bz) bz))) (bn (o45 P) (bn (o83 P) (bn (o155 P) (bn (o287 P) bz bz) (bn (o423 P) bz bz)) (bn (o221 P) (bn (o353 P) bz bz) bz)) (bn (o121 P) (bn (o187 P) (bn (o319 P) bz bz) bz) (bn (o255 P) (bn (o388 P) bz bz) bz)))) (bn (o15 P) (bn (o34 P) (bn (o75 P) (bn (o147 P) (bn (o279 P) bz bz) (bn (o415 P) bz bz)) (bn (o211 P) (bn (o345 P) bz bz) bz)) (bn (o113 P) (bn (o179 P) (bn (o311 P) bz bz) bz) (bn (o247 P) (bn (o380 P) bz bz) bz))) (bn (o53 P) (bn (o94 P) (bn (o163 P) (bn (o295 P) bz bz) (bn (o431 P) bz bz)) (bn (o229 P) (bn (o361 P) bz bz) bz)) (bn (o129 P) (bn (o195 P) (bn (o327 P) bz bz) bz) (bn (o263 P) (bn (o396 P) bz bz) bz))))) (bn (o411 P) (bn (o11 P) (bn (o30 P) (bn (o68 P) (bn (o141 P) (bn (o275 P) bz bz) (bn (o408 P) bz bz)) (bn (o207 P) (bn (o341 P) bz bz) bz)) (bn (o109 P) (bn (o175 P) (bn (o307 P) bz bz) (bn (o443 P) bz bz)) (bn (o243 P) (bn (o373 P) bz bz) bz))) (bn (o49 P) (bn (o90 P) (bn (o159 P) (bn (o291 P) bz bz) (bn (o427 P) bz bz)) (bn (o225 P) (bn (o357 P) bz bz) bz)) (bn (o125 P) (bn (o191 P) (bn (o323 P) bz bz) bz) (bn (o259 P) (bn (o392 P) bz bz) bz)))) (bn (o19 P) (bn (o38 P) (bn (o79 P) (bn (o151 P) (bn (o283 P) bz bz) (bn (o419 P) bz bz)) (bn (o217 P) (bn (o349 P) bz bz) bz)) (bn (o117 P) (bn (o183 P) (bn (o315 P) bz bz) bz) (bn (o251 P) (bn (o384 P) bz bz) bz))) (bn (o60 P) (bn (o98 P) (bn (o167 P) (bn (o299 P) bz bz) (bn (o435 P) bz bz)) (bn (o233 P) (bn (o365 P) bz bz) bz)) (bn (o133 P) (bn (o199 P) (bn (o331 P) bz bz) bz) (bn (o267 P) (bn (o400 P) bz bz) bz)))))) (bn (boot_o_6 P) (bn (boot_o_10 P) (bn (o9 P) (bn (o25 P) (bn (o66 P) (bn (o139 P) (bn (o273 P) bz bz) (bn (o406 P) bz bz)) (bn (o205 P) (bn (o339 P) bz bz) bz)) (bn (o107 P) (bn (o173 P) (bn (o305 P) bz bz) (bn (o441 P) bz bz)) (bn (o241 P) (bn (o371 P) bz bz) bz))) (bn (o47 P) (bn (o85 P) (bn (o157 P) (bn (o289 P) bz bz) (bn (o425 P) bz bz)) (bn (o223 P) (bn (o355 P) bz bz) bz)) (bn (o123 P) (bn (o189 P) (bn (o321 P) bz bz) bz) (bn (o257 P) (bn (o390 P) bz bz) bz)))) (bn (o17 P) (bn (o36 P) (bn (o77 P) (bn (o149 P) (bn (o281 P) bz bz) (bn (o417 P) bz bz)) (bn (o213 P) (bn (o347 P) bz bz) bz)) (bn (o115 P) (bn (o181 P) (bn (o313 P) bz bz) bz) (bn (o249 P) (bn (o382 P) bz bz) bz))) (bn (o55 P) (bn (o96 P) (bn (o165 P) (bn (o297 P) bz bz) (bn (o433 P) bz bz)) (bn (o231 P) (bn (o363 P) bz bz) bz)) (bn (o131 P) (bn (o197 P) (bn (o329 P) bz bz) bz) (bn (o265 P) (bn (o398 P) bz bz) bz))))) (bn (o3 P) (bn (o13 P) (bn (o32 P) (bn (o70 P) (bn (o145 P) (bn (o277 P) bz bz) (bn (o413 P) bz bz)) (bn (o209 P) (bn (o343 P) bz bz) bz)) (bn (o111 P) (bn (o177 P) (bn (o309 P) bz bz) bz) (bn (o245 P) (bn (o378 P) bz bz) bz))) (bn (o51 P) (bn (o92 P) (bn (o161 P) (bn (o293 P) bz bz) (bn (o429 P) bz bz)) (bn (o227 P) (bn (o359 P) bz bz) bz)) (bn (o127 P) (bn (o193 P) (bn (o325 P) bz bz) bz) (bn (o261 P) (bn (o394 P) bz bz) bz)))) (bn (o21 P) (bn (o40 P) (bn (o81 P) (bn (o153 P) (bn (o285 P) bz bz) (bn (o421 P) bz bz)) (bn (o219 P) (bn (o351 P) bz bz) bz)) (bn (o119 P) (bn (o185 P) (bn (o317 P) bz bz) bz) (bn (o253 P) (bn (o386 P) bz bz) bz))) (bn (o62 P) (bn (o100 P) (bn (o169 P) (bn (o301 P) bz bz) (bn (o437 P) bz bz)) (bn (o235 P) (bn (o367 P) bz bz) bz)) (bn (o135 P) (bn (o201 P) (bn (o333 P) bz bz) bz) (bn (o269 P) (bn (o402 P) bz bz) bz))))))))
theorem pc13 : Hd.Pc pp env T12 390 681 T13 421 721 307 [tp 30] ⟨177, 0, 186, 61⟩ ⟨187, 0, 201, 63⟩ := by
  intro w
  kernel_rfl
def o444 (P : Params) : Obj := ⟨.type "dict",none,.dict #[en P "__name__" 165 (.str "roomward.rules" 596),en P "__doc__" 166 .none,en P "__package__" 167 .none,en P "__loader__" 168 (.builtin "__main__.__loader__#opaque"),en P "__spec__" 169 .none,en P "__annotations__" 170 (.ref 6),en P "__builtins__" 171 (.ref 4),en P "__file__" 173 (.str "/claim/cut.py" 172),en P "__cached__" 174 .none,en P "_wall" 193 (.ref 21),en P "WardError" 213 (.ref 31),en P "NoName" 229 (.ref 44),en P "NoDeed" 245 (.ref 56),en P "NoRoom" 261 (.ref 68),en P "TwiceTold" 277 (.ref 80),en P "TooMany" 293 (.ref 92),en P "NoRule" 309 (.ref 104),en P "LETTERS" 313 (.str "abcdefghijklmnopqrstuvwxyz" 312),en P "FIGURES" 315 (.str "0123456789" 314),en P "MOST_SIGNS" 317 (.int 8 316),en P "MOST_DEEDS" 319 (.int 12 318),en P "is_name" 325 (.ref 111),en P "refuse_names" 334 (.ref 118),en P "weights_of" 344 (.ref 125),en P "marks_of" 353 (.ref 132),en P "Deeds" 440 (.ref 199),en P "MOST_ROOMS" 444 (.int 60 443),en P "named_rooms" 457 (.ref 210),en P "refuse_rooms" 465 (.ref 217),en P "leads_of" 477 (.ref 224),en P "Machine" 595 (.ref 317),en P "MOST_TIMES" 599 (.int 6 598),en P "is_times" 606 (.ref 328),en P "Rule" 640 (.ref 352),en P "Never" 680 (.ref 387),en P "Most" 720 (.ref 418),en P "OfTwo" 754 (.ref 444)] 37,#[]⟩
def o445 (P : Params) : Obj := ⟨.none,none,.fields #[.int 1 0,.int 0 0,.ref 20,.int 5 0,.int 0 0,.ref 27,.int 7 0,.int 0 0,.ref 40,.int 9 0,.int 0 0,.ref 52,.int 11 0,.int 0 0,.ref 64,.int 13 0,.int 0 0,.ref 76,.int 15 0,.int 0 0,.ref 88,.int 17 0,.int 0 0,.ref 100,.int 24 0,.int 0 0,.ref 110,.int 29 0,.int 0 0,.ref 117,.int 39 0,.int 0 0,.ref 124,.int 46 0,.int 0 0,.ref 131,.int 51 0,.int 0 0,.ref 138,.int 84 0,.int 0 0,.ref 209,.int 91 0,.int 0 0,.ref 216,.int 95 0,.int 0 0,.ref 223,.int 104 0,.int 0 0,.ref 230,.int 168 0,.int 0 0,.ref 327,.int 170 0,.int 0 0,.ref 334,.int 177 0,.int 0 0,.ref 362,.int 187 0,.int 0 0,.ref 395,.int 202 0,.int 0 0,.ref 426],#[]⟩
def o446 (P : Params) : Obj := ⟨.type "type",none,.cls ⟨"Rule",[.type "object"],[.ref 352,.type "object"],351,"Rule",true,[],[.ref 387,.ref 418,.ref 444],false,none,false⟩,#[none,none,(some (.str "Rule" 607)),(some (.str "Rule" 615)),(some (.builtin "object.__new__")),(some (.bool true))]⟩
def o447 (P : Params) : Obj := ⟨.type "tuple",none,.seq #[.ref 352] 0,#[]⟩
def o448 (P : Params) : Obj := ⟨.type "builtin_function_or_method",none,.fields #[.builtin "type.__prepare__",.type "type"],#[]⟩
def o449 (P : Params) : Obj := ⟨.type "dict",none,.dict #[en P "__module__" 728 (.str "roomward.rules" 596),en P "__qualname__" 730 (.str "OfTwo" 729),en P "__firstlineno__" 732 (.int 202 731),en P "__init__" 741 (.ref 434),en P "about" 748 (.ref 441),en P "__static_attributes__" 751 (.ref 442)] 6,#[]⟩
def o450 (P : Params) : Obj := ⟨.type "tuple",none,.seq #[] 0,#[]⟩
def o451 (P : Params) : Obj := ⟨.none,none,.fields #[.int 204 0,.int 4 0,.ref 433,.int 210 0,.int 4 0,.ref 440],#[]⟩
def o452 (P : Params) : Obj := ⟨.type "code",none,.fields #[.str "OfTwo" 723,.str "OfTwo" 724,.str "/claim/cut.py" 725,.int 202 0,.int 0 0,.int 0 0,.int 0 0,.int 0 0,.ref 424,.bool false,.int 181 0,.ref 425,.none,.none,.none,.none,.int 726 0,.int 202 0,.str "/claim/cut.py" 727],#[]⟩
def o453 (P : Params) : Obj := ⟨.type "frame",none,.plain,#[(some (.ref 426)),(some (.ref 3)),(some (.ref 423)),none,(some (.str "roomward.rules" 596)),none,(some (.ref 0))]⟩
def o454 (P : Params) : Obj := ⟨.type "tuple",none,.seq #[] 0,#[]⟩
def o455 (P : Params) : Obj := ⟨.none,none,.fields #[],#[]⟩
def o456 (P : Params) : Obj := ⟨.type "tuple",none,.seq #[.str "self" 736,.str "one" 737,.str "other" 738] 0,#[]⟩
def o457 (P : Params) : Obj := ⟨.type "tuple",none,.seq #[] 0,#[]⟩
def o458 (P : Params) : Obj := ⟨.none,none,.func ⟨"__init__","OfTwo.__init__",defArgs (inClass (tp 31) 0),.stmts (defBody (inClass (tp 31) 0)),defScope (inClass (tp 31) 0),0,[],.none,.none,.none,.none,none,.none,.none,0⟩,#[]⟩
def o459 (P : Params) : Obj := ⟨.type "code",none,.fields #[.str "__init__" 733,.str "OfTwo.__init__" 734,.str "/claim/cut.py" 735,.int 204 0,.int 3 0,.int 0 0,.int 0 0,.int 3 0,.ref 428,.bool true,.int 181 0,.ref 429,.none,.ref 430,.ref 431,.ref 432,.int 739 0,.int 204 0,.str "/claim/cut.py" 740],#[]⟩
def o460 (P : Params) : Obj := ⟨.type "function",none,.func ⟨"__init__","OfTwo.__init__",defArgs (inClass (tp 31) 0),.stmts (defBody (inClass (tp 31) 0)),defScope (inClass (tp 31) 0),3,[],.none,.none,.none,.str "roomward.rules" 596,none,.ref 433,.none,0⟩,#[]⟩
def o461 (P : Params) : Obj := ⟨.type "tuple",none,.seq #[] 0,#[]⟩
def o462 (P : Params) : Obj := ⟨.none,none,.fields #[],#[]⟩
def o463 (P : Params) : Obj := ⟨.type "tuple",none,.seq #[.str "self" 745] 0,#[]⟩
def o464 (P : Params) : Obj := ⟨.type "tuple",none,.seq #[] 0,#[]⟩
def o465 (P : Params) : Obj := ⟨.none,none,.func ⟨"about","OfTwo.about",defArgs (inClass (tp 31) 1),.stmts (defBody (inClass (tp 31) 1)),defScope (inClass (tp 31) 1),0,[],.none,.none,.none,.none,none,.none,.none,0⟩,#[]⟩
def o466 (P : Params) : Obj := ⟨.type "code",none,.fields #[.str "about" 742,.str "OfTwo.about" 743,.str "/claim/cut.py" 744,.int 210 0,.int 1 0,.int 0 0,.int 0 0,.int 3 0,.ref 435,.bool true,.int 181 0,.ref 436,.none,.ref 437,.ref 438,.ref 439,.int 746 0,.int 210 0,.str "/claim/cut.py" 747],#[]⟩
def o467 (P : Params) : Obj := ⟨.type "function",none,.func ⟨"about","OfTwo.about",defArgs (inClass (tp 31) 1),.stmts (defBody (inClass (tp 31) 1)),defScope (inClass (tp 31) 1),3,[],.none,.none,.none,.str "roomward.rules" 596,none,.ref 440,.none,0⟩,#[]⟩
def o468 (P : Params) : Obj := ⟨.type "tuple",none,.seq #[.str "one" 749,.str "other" 750] 0,#[]⟩
def o469 (P : Params) : Obj := ⟨.type "dict",none,.dict #[en P "__module__" 728 (.str "roomward.rules" 596),en P "__firstlineno__" 732 (.int 202 731),en P "__init__" 741 (.ref 434),en P "about" 748 (.ref 441),en P "__static_attributes__" 751 (.ref 442),en P "__doc__" 752 .none] 2,#[]⟩
def o470 (P : Params) : Obj := ⟨.type "type",none,.cls ⟨"OfTwo",[.ref 352],[.ref 444,.ref 352,.type "object"],443,"OfTwo",true,[],[],false,none,false⟩,#[(some (.ref 421)),none,(some (.str "OfTwo" 721)),(some (.str "OfTwo" 729)),(some (.builtin "object.__new__")),(some (.bool true))]⟩
def o471 (P : Params) : Obj := ⟨.type "super",none,.fields #[.ref 444,.ref 444,.ref 444],#[]⟩
def o472 (P : Params) : Obj := ⟨.type "builtin_function_or_method",none,.fields #[.builtin "object.__init_subclass__",.ref 444],#[]⟩
noncomputable def T14 (P : Params) : BT := (bn (boot_o_0 P) (bn (boot_o_1 P) (bn (o444 P) (bn (boot_o_7 P) (bn (o6 P) (bn (o103 P) (bn (o63 P) (bn (o136 P) (bn (o270 P) bz bz) (bn (o403 P) bz bz)) (bn (o202 P) (bn (o334 P) bz bz) bz)) (bn (o104 P) (bn (o170 P) (bn (o302 P) bz bz) (bn (o438 P) bz bz)) (bn (o236 P) (bn (o368 P) bz bz) bz))) (bn (o44 P) (bn (o82 P) (bn (o154 P) (bn (o286 P) bz bz) (bn (o422 P) bz bz)) (bn (o220 P) (bn (o352 P) bz bz) bz)) (bn (o120 P) (bn (o186 P) (bn (o318 P) bz bz) (bn (o457 P) bz bz)) (bn (o254 P) (bn (o387 P) bz bz) bz)))) (bn (o14 P) (bn (o33 P) (bn (o74 P) (bn (o146 P) (bn (o278 P) bz bz) (bn (o414 P) bz bz)) (bn (o210 P) (bn (o344 P) bz bz) bz)) (bn (o112 P) (bn (o178 P) (bn (o310 P) bz bz) (bn (o449 P) bz bz)) (bn (o246 P) (bn (o379 P) bz bz) bz))) (bn (o52 P) (bn (o93 P) (bn (o162 P) (bn (o294 P) bz bz) (bn (o430 P) bz bz)) (bn (o228 P) (bn (o360 P) bz bz) bz)) (bn (o128 P) (bn (o194 P) (bn (o326 P) bz bz) (bn (o465 P) bz bz)) (bn (o262 P) (bn (o395 P) bz bz) bz))))) (bn (o0 P) (bn (o10 P) (bn (o29 P) (bn (o67 P) (bn (o140 P) (bn (o274 P) bz bz) (bn (o407 P) bz bz)) (bn (o206 P) (bn (o340 P) bz bz) bz)) (bn (o108 P) (bn (o174 P) (bn (o306 P) bz bz) (bn (o442 P) bz bz)) (bn (o242 P) (bn (o372 P) bz bz) bz))) (bn (o48 P) (bn (o89 P) (bn (o158 P) (bn (o290 P) bz bz) (bn (o426 P) bz bz)) (bn (o224 P) (bn (o356 P) bz bz) bz)) (bn (o124 P) (bn (o190 P) (bn (o322 P) bz bz) (bn (o461 P) bz bz)) (bn (o258 P) (bn (o391 P) bz bz) bz)))) (bn (o18 P) (bn (o37 P) (bn (o78 P) (bn (o150 P) (bn (o282 P) bz bz) (bn (o418 P) bz bz)) (bn (o214 P) (bn (o348 P) bz bz) bz)) (bn (o116 P) (bn (o182 P) (bn (o314 P) bz bz) (bn (o453 P) bz bz)) (bn (o250 P) (bn (o383 P) bz bz) bz))) (bn (o59 P) (bn (o97 P) (bn (o166 P) (bn (o298 P) bz bz) (bn (o434 P) bz bz)) (bn (o232 P) (bn (o364 P) bz bz) bz)) (bn (o132 P) (bn (o198 P) (bn (o330 P) bz bz) (bn (o469 P) bz bz)) (bn (o266 P) (bn (o399 P) bz bz) bz)))))) (bn (boot_o_5 P) (bn (boot_o_9 P) (bn (o8 P) (bn (o24 P) (bn (o65 P) (bn (o138 P) (bn (o272 P) bz bz) (bn (o405 P) bz bz)) (bn (o204 P) (bn (o336 P) bz bz) bz)) (bn (o106 P) (bn (o172 P) (bn (o304 P) bz bz) (bn (o440 P) bz bz)) (bn (o240 P) (bn (o370 P) bz bz) bz))) (bn (o46 P) (bn (o84 P) (bn (o156 P) (bn (o288 P) bz bz) (bn (o424 P) bz bz)) (bn (o222 P) (bn (o354 P) bz bz) bz)) (bn (o122 P) (bn (o188 P) (bn (o320 P) bz bz) (bn (o459 P) bz bz)) (bn (o256 P) (bn (o389 P) bz bz) bz)))) (bn (o16 P) (bn (o35 P) (bn (o76 P) (bn (o148 P) (bn (o280 P) bz bz) (bn (o416 P) bz bz)) (bn (o212 P) (bn (o346 P) bz bz) bz)) (bn (o114 P) (bn (o180 P) (bn (o312 P) bz bz) (bn (o451 P) bz bz)) (bn (o248 P) (bn (o381 P) bz bz) bz))) (bn (o54 P) (bn (o95 P) (bn (o164 P) (bn (o296 P) bz bz) (bn (o432 P) bz bz)) (bn (o230 P) (bn (o362 P) bz bz) bz)) (bn (o130 P) (bn (o196 P) (bn (o328 P) bz bz) (bn (o467 P) bz bz)) (bn (o264 P) (bn (o397 P) bz bz) bz))))) (bn (o2 P) (bn (o12 P) (bn (o31 P) (bn (o69 P) (bn (o144 P) (bn (o276 P) bz bz) (bn (o409 P) bz bz)) (bn (o208 P) (bn (o342 P) bz bz) bz)) (bn (o110 P) (bn (o176 P) (bn (o308 P) bz bz) (bn (o447 P) bz bz)) (bn (o244 P) (bn (o377 P) bz bz) bz))) (bn (o50 P) (bn (o91 P) (bn (o160 P) (bn (o292 P) bz bz) (bn (o428 P) bz bz)) (bn (o226 P) (bn (o358 P) bz bz) bz)) (bn (o126 P) (bn (o192 P) (bn (o324 P) bz bz) (bn (o463 P) bz bz)) (bn (o260 P) (bn (o393 P) bz bz) bz)))) (bn (o20 P) (bn (o39 P) (bn (o80 P) (bn (o152 P) (bn (o284 P) bz bz) (bn (o420 P) bz bz)) (bn (o218 P) (bn (o350 P) bz bz) bz)) (bn (o118 P) (bn (o184 P) (bn (o316 P) bz bz) (bn (o455 P) bz bz)) (bn (o252 P) (bn (o385 P) bz bz) bz))) (bn (o61 P) (bn (o99 P) (bn (o168 P) (bn (o300 P) bz bz) (bn (o436 P) bz bz)) (bn (o234 P) (bn (o366 P) bz bz) bz)) (bn (o134 P) (bn (o200 P) (bn (o332 P) bz bz) (bn (o471 P) bz bz)) (bn (o268 P) (bn (o401 P) bz bz) bz))))))) (bn (boot_o_2 P) (bn (boot_o_4 P) (bn (boot_o_8 P) (bn (o7 P) (bn (o23 P) (bn (o64 P) (bn (o137 P) (bn (o271 P) bz bz) (bn (o404 P) bz bz)) (bn (o203 P) (bn (o335 P) bz bz) bz)) (bn (o105 P) (bn (o171 P) (bn (o303 P) bz bz) (bn (o439 P) bz bz)) (bn (o237 P) (bn (o446 P) bz bz) bz))) (bn (o45 P) (bn (o83 P) (bn (o155 P) (bn (o287 P) bz bz) (bn (o423 P) bz bz)) (bn (o221 P) (bn (o353 P) bz bz) bz)) (bn (o121 P) (bn (o187 P) (bn (o319 P) bz bz) (bn (o458 P) bz bz)) (bn (o255 P) (bn (o388 P) bz bz) bz)))) (bn (o15 P) (bn (o34 P) (bn (o75 P) (bn (o147 P) (bn (o279 P) bz bz) (bn (o415 P) bz bz)) (bn (o211 P) (bn (o345 P) bz bz) bz)) (bn (o113 P) (bn (o179 P) (bn (o311 P) bz bz) (bn (o450 P) bz bz)) (bn (o247 P) (bn (o380 P) bz bz) bz))) (bn (o53 P) (bn (o94 P) (bn (o163 P) (bn (o295 P) bz bz) (bn (o431 P) bz bz)) (bn (o229 P) (bn (o361 P) bz bz) bz)) (bn (o129 P) (bn (o195 P) (bn (o327 P) bz bz) (bn (o466 P) bz bz)) (bn (o263 P) (bn (o396 P) bz bz) bz))))) (bn (o445 P) (bn (o11 P) (bn (o30 P) (bn (o68 P) (bn (o141 P) (bn (o275 P) bz bz) (bn (o408 P) bz bz)) (bn (o207 P) (bn (o341 P) bz bz) bz)) (bn (o109 P) (bn (o175 P) (bn (o307 P) bz bz) (bn (o443 P) bz bz)) (bn (o243 P) (bn (o373 P) bz bz) bz))) (bn (o49 P) (bn (o90 P) (bn (o159 P) (bn (o291 P) bz bz) (bn (o427 P) bz bz)) (bn (o225 P) (bn (o357 P) bz bz) bz)) (bn (o125 P) (bn (o191 P) (bn (o323 P) bz bz) (bn (o462 P) bz bz)) (bn (o259 P) (bn (o392 P) bz bz) bz)))) (bn (o19 P) (bn (o38 P) (bn (o79 P) (bn (o151 P) (bn (o283 P) bz bz) (bn (o419 P) bz bz)) (bn (o217 P) (bn (o349 P) bz bz) bz)) (bn (o117 P) (bn (o183 P) (bn (o315 P) bz bz) (bn (o454 P) bz bz)) (bn (o251 P) (bn (o384 P) bz bz) bz))) (bn (o60 P) (bn (o98 P) (bn (o167 P) (bn (o299 P) bz bz) (bn (o435 P) bz bz)) (bn (o233 P) (bn (o365 P) bz bz) bz)) (bn (o133 P) (bn (o199 P) (bn (o331 P) bz bz) (bn (o470 P) bz bz)) (bn (o267 P) (bn (o400 P) bz bz) bz)))))) (bn (boot_o_6 P) (bn (boot_o_10 P) (bn (o9 P) (bn (o25 P) (bn (o66 P) (bn (o139 P) (bn (o273 P) bz bz) (bn (o406 P) bz bz)) (bn (o205 P) (bn (o339 P) bz bz) bz)) (bn (o107 P) (bn (o173 P) (bn (o305 P) bz bz) (bn (o441 P) bz bz)) (bn (o241 P) (bn (o371 P) bz bz) bz))) (bn (o47 P) (bn (o85 P) (bn (o157 P) (bn (o289 P) bz bz) (bn (o425 P) bz bz)) (bn (o223 P) (bn (o355 P) bz bz) bz)) (bn (o123 P) (bn (o189 P) (bn (o321 P) bz bz) (bn (o460 P) bz bz)) (bn (o257 P) (bn (o390 P) bz bz) bz)))) (bn (o17 P) (bn (o36 P) (bn (o77 P) (bn (o149 P) (bn (o281 P) bz bz) (bn (o417 P) bz bz)) (bn (o213 P) (bn (o347 P) bz bz) bz)) (bn (o115 P) (bn (o181 P) (bn (o313 P) bz bz) (bn (o452 P) bz bz)) (bn (o249 P) (bn (o382 P) bz bz) bz))) (bn (o55 P) (bn (o96 P) (bn (o165 P) (bn (o297 P) bz bz) (bn (o433 P) bz bz)) (bn (o231 P) (bn (o363 P) bz bz) bz)) (bn (o131 P) (bn (o197 P) (bn (o329 P) bz bz) (bn (o468 P) bz bz)) (bn (o265 P) (bn (o398 P) bz bz) bz))))) (bn (o3 P) (bn (o13 P) (bn (o32 P) (bn (o70 P) (bn (o145 P) (bn (o277 P) bz bz) (bn (o413 P) bz bz)) (bn (o209 P) (bn (o343 P) bz bz) bz)) (bn (o111 P) (bn (o177 P) (bn (o309 P) bz bz) (bn (o448 P) bz bz)) (bn (o245 P) (bn (o378 P) bz bz) bz))) (bn (o51 P) (bn (o92 P) (bn (o161 P) (bn (o293 P) bz bz) (bn (o429 P) bz bz)) (bn (o227 P) (bn (o359 P) bz bz) bz)) (bn (o127 P) (bn (o193 P) (bn (o325 P) bz bz) (bn (o464 P) bz bz)) (bn (o261 P) (bn (o394 P) bz bz) bz)))) (bn (o21 P) (bn (o40 P) (bn (o81 P) (bn (o153 P) (bn (o285 P) bz bz) (bn (o421 P) bz bz)) (bn (o219 P) (bn (o351 P) bz bz) bz)) (bn (o119 P) (bn (o185 P) (bn (o317 P) bz bz) (bn (o456 P) bz bz)) (bn (o253 P) (bn (o386 P) bz bz) bz))) (bn (o62 P) (bn (o100 P) (bn (o169 P) (bn (o301 P) bz bz) (bn (o437 P) bz bz)) (bn (o235 P) (bn (o367 P) bz bz) bz)) (bn (o135 P) (bn (o201 P) (bn (o333 P) bz bz) (bn (o472 P) bz bz)) (bn (o269 P) (bn (o402 P) bz bz) bz))))))))
theorem pc14 : Hd.Pc pp env T13 421 721 T14 447 755 279 [tp 31] ⟨187, 0, 201, 63⟩ ⟨202, 0, 211, 37⟩ := by
  intro w
  kernel_rfl
def o473 (P : Params) : Obj := ⟨.type "dict",none,.dict #[en P "__name__" 165 (.str "roomward.rules" 596),en P "__doc__" 166 .none,en P "__package__" 167 .none,en P "__loader__" 168 (.builtin "__main__.__loader__#opaque"),en P "__spec__" 169 .none,en P "__annotations__" 170 (.ref 6),en P "__builtins__" 171 (.ref 4),en P "__file__" 173 (.str "/claim/cut.py" 172),en P "__cached__" 174 .none,en P "_wall" 193 (.ref 21),en P "WardError" 213 (.ref 31),en P "NoName" 229 (.ref 44),en P "NoDeed" 245 (.ref 56),en P "NoRoom" 261 (.ref 68),en P "TwiceTold" 277 (.ref 80),en P "TooMany" 293 (.ref 92),en P "NoRule" 309 (.ref 104),en P "LETTERS" 313 (.str "abcdefghijklmnopqrstuvwxyz" 312),en P "FIGURES" 315 (.str "0123456789" 314),en P "MOST_SIGNS" 317 (.int 8 316),en P "MOST_DEEDS" 319 (.int 12 318),en P "is_name" 325 (.ref 111),en P "refuse_names" 334 (.ref 118),en P "weights_of" 344 (.ref 125),en P "marks_of" 353 (.ref 132),en P "Deeds" 440 (.ref 199),en P "MOST_ROOMS" 444 (.int 60 443),en P "named_rooms" 457 (.ref 210),en P "refuse_rooms" 465 (.ref 217),en P "leads_of" 477 (.ref 224),en P "Machine" 595 (.ref 317),en P "MOST_TIMES" 599 (.int 6 598),en P "is_times" 606 (.ref 328),en P "Rule" 640 (.ref 352),en P "Never" 680 (.ref 387),en P "Most" 720 (.ref 418),en P "OfTwo" 754 (.ref 444),en P "Ahead" 788 (.ref 470)] 38,#[]⟩
def o474 (P : Params) : Obj := ⟨.none,none,.fields #[.int 1 0,.int 0 0,.ref 20,.int 5 0,.int 0 0,.ref 27,.int 7 0,.int 0 0,.ref 40,.int 9 0,.int 0 0,.ref 52,.int 11 0,.int 0 0,.ref 64,.int 13 0,.int 0 0,.ref 76,.int 15 0,.int 0 0,.ref 88,.int 17 0,.int 0 0,.ref 100,.int 24 0,.int 0 0,.ref 110,.int 29 0,.int 0 0,.ref 117,.int 39 0,.int 0 0,.ref 124,.int 46 0,.int 0 0,.ref 131,.int 51 0,.int 0 0,.ref 138,.int 84 0,.int 0 0,.ref 209,.int 91 0,.int 0 0,.ref 216,.int 95 0,.int 0 0,.ref 223,.int 104 0,.int 0 0,.ref 230,.int 168 0,.int 0 0,.ref 327,.int 170 0,.int 0 0,.ref 334,.int 177 0,.int 0 0,.ref 362,.int 187 0,.int 0 0,.ref 395,.int 202 0,.int 0 0,.ref 426,.int 212 0,.int 0 0,.ref 452],#[]⟩
def o475 (P : Params) : Obj := ⟨.type "type",none,.cls ⟨"OfTwo",[.ref 352],[.ref 444,.ref 352,.type "object"],443,"OfTwo",true,[],[.ref 470],false,none,false⟩,#[(some (.ref 421)),none,(some (.str "OfTwo" 721)),(some (.str "OfTwo" 729)),(some (.builtin "object.__new__")),(some (.bool true))]⟩
def o476 (P : Params) : Obj := ⟨.type "tuple",none,.seq #[.ref 444] 0,#[]⟩
def o477 (P : Params) : Obj := ⟨.type "builtin_function_or_method",none,.fields #[.builtin "type.__prepare__",.type "type"],#[]⟩
def o478 (P : Params) : Obj := ⟨.type "dict",none,.dict #[en P "__module__" 762 (.str "roomward.rules" 596),en P "__qualname__" 764 (.str "Ahead" 763),en P "__firstlineno__" 766 (.int 212 765),en P "__init__" 775 (.ref 460),en P "machine" 784 (.ref 467),en P "__static_attributes__" 785 (.ref 468)] 6,#[]⟩
def o479 (P : Params) : Obj := ⟨.type "tuple",none,.seq #[] 0,#[]⟩
def o480 (P : Params) : Obj := ⟨.none,none,.fields #[.int 214 0,.int 4 0,.ref 459,.int 217 0,.int 4 0,.ref 466],#[]⟩
def o481 (P : Params) : Obj := ⟨.type "code",none,.fields #[.str "Ahead" 757,.str "Ahead" 758,.str "/claim/cut.py" 759,.int 212 0,.int 0 0,.int 0 0,.int 0 0,.int 0 0,.ref 450,.bool false,.int 181 0,.ref 451,.none,.none,.none,.none,.int 760 0,.int 212 0,.str "/claim/cut.py" 761],#[]⟩
def o482 (P : Params) : Obj := ⟨.type "frame",none,.plain,#[(some (.ref 452)),(some (.ref 3)),(some (.ref 449)),none,(some (.str "roomward.rules" 596)),none,(some (.ref 0))]⟩
def o483 (P : Params) : Obj := ⟨.type "tuple",none,.seq #[] 0,#[]⟩
def o484 (P : Params) : Obj := ⟨.none,none,.fields #[],#[]⟩
def o485 (P : Params) : Obj := ⟨.type "tuple",none,.seq #[.str "self" 770,.str "first" 771,.str "later" 772] 0,#[]⟩
def o486 (P : Params) : Obj := ⟨.type "tuple",none,.seq #[] 0,#[]⟩
def o487 (P : Params) : Obj := ⟨.none,none,.func ⟨"__init__","Ahead.__init__",defArgs (inClass (tp 32) 0),.stmts (defBody (inClass (tp 32) 0)),defScope (inClass (tp 32) 0),0,[],.none,.none,.none,.none,none,.none,.none,0⟩,#[]⟩
def o488 (P : Params) : Obj := ⟨.type "code",none,.fields #[.str "__init__" 767,.str "Ahead.__init__" 768,.str "/claim/cut.py" 769,.int 214 0,.int 3 0,.int 0 0,.int 0 0,.int 3 0,.ref 454,.bool true,.int 181 0,.ref 455,.none,.ref 456,.ref 457,.ref 458,.int 773 0,.int 214 0,.str "/claim/cut.py" 774],#[]⟩
def o489 (P : Params) : Obj := ⟨.type "function",none,.func ⟨"__init__","Ahead.__init__",defArgs (inClass (tp 32) 0),.stmts (defBody (inClass (tp 32) 0)),defScope (inClass (tp 32) 0),3,[],.none,.none,.none,.str "roomward.rules" 596,none,.ref 459,.none,0⟩,#[]⟩
def o490 (P : Params) : Obj := ⟨.type "tuple",none,.seq #[] 0,#[]⟩
def o491 (P : Params) : Obj := ⟨.none,none,.fields #[],#[]⟩
def o492 (P : Params) : Obj := ⟨.type "tuple",none,.seq #[.str "self" 779,.str "deeds" 780,.str "doors" 781] 0,#[]⟩
def o493 (P : Params) : Obj := ⟨.type "tuple",none,.seq #[] 0,#[]⟩
def o494 (P : Params) : Obj := ⟨.none,none,.func ⟨"machine","Ahead.machine",defArgs (inClass (tp 32) 1),.stmts (defBody (inClass (tp 32) 1)),defScope (inClass (tp 32) 1),0,[],.none,.none,.none,.none,none,.none,.none,0⟩,#[]⟩
def o495 (P : Params) : Obj := ⟨.type "code",none,.fields #[.str "machine" 776,.str "Ahead.machine" 777,.str "/claim/cut.py" 778,.int 217 0,.int 2 0,.int 0 0,.int 0 0,.int 3 0,.ref 461,.bool true,.int 181 0,.ref 462,.none,.ref 463,.ref 464,.ref 465,.int 782 0,.int 217 0,.str "/claim/cut.py" 783],#[]⟩
def o496 (P : Params) : Obj := ⟨.type "function",none,.func ⟨"machine","Ahead.machine",defArgs (inClass (tp 32) 1),.stmts (defBody (inClass (tp 32) 1)),defScope (inClass (tp 32) 1),3,[],.none,.none,.none,.str "roomward.rules" 596,none,.ref 466,.none,0⟩,#[]⟩
def o497 (P : Params) : Obj := ⟨.type "tuple",none,.seq #[] 0,#[]⟩
def o498 (P : Params) : Obj := ⟨.type "dict",none,.dict #[en P "__module__" 762 (.str "roomward.rules" 596),en P "__firstlineno__" 766 (.int 212 765),en P "__init__" 775 (.ref 460),en P "machine" 784 (.ref 467),en P "__static_attributes__" 785 (.ref 468),en P "__doc__" 786 .none] 2,#[]⟩
def o499 (P : Params) : Obj := ⟨.type "type",none,.cls ⟨"Ahead",[.ref 444],[.ref 470,.ref 444,.ref 352,.type "object"],469,"Ahead",true,[],[],false,none,false⟩,#[(some (.ref 447)),none,(some (.str "Ahead" 755)),(some (.str "Ahead" 763)),(some (.builtin "object.__new__")),(some (.bool true))]⟩
def o500 (P : Params) : Obj := ⟨.type "super",none,.fields #[.ref 470,.ref 470,.ref 470],#[]⟩
def o501 (P : Params) : Obj := ⟨.type "builtin_function_or_method",none,.fields #[.builtin "object.__init_subclass__",.ref 470],#[]⟩
noncomputable def T15 (P : Params) : BT := (bn (boot_o_0 P) (bn (boot_o_1 P) (bn (o473 P) (bn (boot_o_7 P) (bn (o6 P) (bn (o103 P) (bn (o63 P) (bn (o136 P) (bn (o270 P) bz bz) (bn (o403 P) bz bz)) (bn (o202 P) (bn (o334 P) bz bz) (bn (o476 P) bz bz))) (bn (o104 P) (bn (o170 P) (bn (o302 P) bz bz) (bn (o438 P) bz bz)) (bn (o236 P) (bn (o368 P) bz bz) bz))) (bn (o44 P) (bn (o82 P) (bn (o154 P) (bn (o286 P) bz bz) (bn (o422 P) bz bz)) (bn (o220 P) (bn (o352 P) bz bz) (bn (o492 P) bz bz))) (bn (o120 P) (bn (o186 P) (bn (o318 P) bz bz) (bn (o457 P) bz bz)) (bn (o254 P) (bn (o387 P) bz bz) bz)))) (bn (o14 P) (bn (o33 P) (bn (o74 P) (bn (o146 P) (bn (o278 P) bz bz) (bn (o414 P) bz bz)) (bn (o210 P) (bn (o344 P) bz bz) (bn (o484 P) bz bz))) (bn (o112 P) (bn (o178 P) (bn (o310 P) bz bz) (bn (o449 P) bz bz)) (bn (o246 P) (bn (o379 P) bz bz) bz))) (bn (o52 P) (bn (o93 P) (bn (o162 P) (bn (o294 P) bz bz) (bn (o430 P) bz bz)) (bn (o228 P) (bn (o360 P) bz bz) (bn (o500 P) bz bz))) (bn (o128 P) (bn (o194 P) (bn (o326 P) bz bz) (bn (o465 P) bz bz)) (bn (o262 P) (bn (o395 P) bz bz) bz))))) (bn (o0 P) (bn (o10 P) (bn (o29 P) (bn (o67 P) (bn (o140 P) (bn (o274 P) bz bz) (bn (o407 P) bz bz)) (bn (o206 P) (bn (o340 P) bz bz) (bn (o480 P) bz bz))) (bn (o108 P) (bn (o174 P) (bn (o306 P) bz bz) (bn (o442 P) bz bz)) (bn (o242 P) (bn (o372 P) bz bz) bz))) (bn (o48 P) (bn (o89 P) (bn (o158 P) (bn (o290 P) bz bz) (bn (o426 P) bz bz)) (bn (o224 P) (bn (o356 P) bz bz) (bn (o496 P) bz bz))) (bn (o124 P) (bn (o190 P) (bn (o322 P) bz bz) (bn (o461 P) bz bz)) (bn (o258 P) (bn (o391 P) bz bz) bz)))) (bn (o18 P) (bn (o37 P) (bn (o78 P) (bn (o150 P) (bn (o282 P) bz bz) (bn (o418 P) bz bz)) (bn (o214 P) (bn (o348 P) bz bz) (bn (o488 P) bz bz))) (bn (o116 P) (bn (o182 P) (bn (o314 P) bz bz) (bn (o453 P) bz bz)) (bn (o250 P) (bn (o383 P) bz bz) bz))) (bn (o59 P) (bn (o97 P) (bn (o166 P) (bn (o298 P) bz bz) (bn (o434 P) bz bz)) (bn (o232 P) (bn (o364 P) bz bz) bz)) (bn (o132 P) (bn (o198 P) (bn (o330 P) bz bz) (bn (o469 P) bz bz)) (bn (o266 P) (bn (o399 P) bz bz) bz)))))) (bn (boot_o_5 P) (bn (boot_o_9 P) (bn (o8 P) (bn (o24 P) (bn (o65 P) (bn (o138 P) (bn (o272 P) bz bz) (bn (o405 P) bz bz)) (bn (o204 P) (bn (o336 P) bz bz) (bn (o478 P) bz bz))) (bn (o106 P) (bn (o172 P) (bn (o304 P) bz bz) (bn (o440 P) bz bz)) (bn (o240 P) (bn (o370 P) bz bz) bz))) (bn (o46 P) (bn (o84 P) (bn (o156 P) (bn (o288 P) bz bz) (bn (o424 P) bz bz)) (bn (o222 P) (bn (o354 P) bz bz) (bn (o494 P) bz bz))) (bn (o122 P) (bn (o188 P) (bn (o320 P) bz bz) (bn (o459 P) bz bz)) (bn (o256 P) (bn (o389 P) bz bz) bz)))) (bn (o16 P) (bn (o35 P) (bn (o76 P) (bn (o148 P) (bn (o280 P) bz bz) (bn (o416 P) bz bz)) (bn (o212 P) (bn (o346 P) bz bz) (bn (o486 P) bz bz))) (bn (o114 P) (bn (o180 P) (bn (o312 P) bz bz) (bn (o451 P) bz bz)) (bn (o248 P) (bn (o381 P) bz bz) bz))) (bn (o54 P) (bn (o95 P) (bn (o164 P) (bn (o296 P) bz bz) (bn (o432 P) bz bz)) (bn (o230 P) (bn (o362 P) bz bz) bz)) (bn (o130 P) (bn (o196 P) (bn (o328 P) bz bz) (bn (o467 P) bz bz)) (bn (o264 P) (bn (o397 P) bz bz) bz))))) (bn (o2 P) (bn (o12 P) (bn (o31 P) (bn (o69 P) (bn (o144 P) (bn (o276 P) bz bz) (bn (o409 P) bz bz)) (bn (o208 P) (bn (o342 P) bz bz) (bn (o482 P) bz bz))) (bn (o110 P) (bn (o176 P) (bn (o308 P) bz bz) (bn (o447 P) bz bz)) (bn (o244 P) (bn (o377 P) bz bz) bz))) (bn (o50 P) (bn (o91 P) (bn (o160 P) (bn (o292 P) bz bz) (bn (o428 P) bz bz)) (bn (o226 P) (bn (o358 P) bz bz) (bn (o498 P) bz bz))) (bn (o126 P) (bn (o192 P) (bn (o324 P) bz bz) (bn (o463 P) bz bz)) (bn (o260 P) (bn (o393 P) bz bz) bz)))) (bn (o20 P) (bn (o39 P) (bn (o80 P) (bn (o152 P) (bn (o284 P) bz bz) (bn (o420 P) bz bz)) (bn (o218 P) (bn (o350 P) bz bz) (bn (o490 P) bz bz))) (bn (o118 P) (bn (o184 P) (bn (o316 P) bz bz) (bn (o455 P) bz bz)) (bn (o252 P) (bn (o385 P) bz bz) bz))) (bn (o61 P) (bn (o99 P) (bn (o168 P) (bn (o300 P) bz bz) (bn (o436 P) bz bz)) (bn (o234 P) (bn (o366 P) bz bz) bz)) (bn (o134 P) (bn (o200 P) (bn (o332 P) bz bz) (bn (o471 P) bz bz)) (bn (o268 P) (bn (o401 P) bz bz) bz))))))) (bn (boot_o_2 P) (bn (boot_o_4 P) (bn (boot_o_8 P) (bn (o7 P) (bn (o23 P) (bn (o64 P) (bn (o137 P) (bn (o271 P) bz bz) (bn (o404 P) bz bz)) (bn (o203 P) (bn (o335 P) bz bz) (bn (o477 P) bz bz))) (bn (o105 P) (bn (o171 P) (bn (o303 P) bz bz) (bn (o439 P) bz bz)) (bn (o237 P) (bn (o446 P) bz bz) bz))) (bn (o45 P) (bn (o83 P) (bn (o155 P) (bn (o287 P) bz bz) (bn (o423 P) bz bz)) (bn (o221 P) (bn (o353 P) bz bz) (bn (o493 P) bz bz))) (bn (o121 P) (bn (o187 P) (bn (o319 P) bz bz) (bn (o458 P) bz bz)) (bn (o255 P) (bn (o388 P) bz bz) bz)))) (bn (o15 P) (bn (o34 P) (bn (o75 P) (bn (o147 P) (bn (o279 P) bz bz) (bn (o415 P) bz bz)) (bn (o211 P) (bn (o345 P) bz bz) (bn (o485 P) bz bz))) (bn (o113 P) (bn (o179 P) (bn (o311 P) bz bz) (bn (o450 P) bz bz)) (bn (o247 P) (bn (o380 P) bz bz) bz))) (bn (o53 P) (bn (o94 P) (bn (o163 P) (bn (o295 P) bz bz) (bn (o431 P) bz bz)) (bn (o229 P) (bn (o361 P) bz bz) (bn (o501 P) bz bz))) (bn (o129 P) (bn (o195 P) (bn (o327 P) bz bz) (bn (o466 P) bz bz)) (bn (o263 P) (bn (o396 P) bz bz) bz))))) (bn (o474 P) (bn (o11 P) (bn (o30 P) (bn (o68 P) (bn (o141 P) (bn (o275 P) bz bz) (bn (o408 P) bz bz)) (bn (o207 P) (bn (o341 P) bz bz) (bn (o481 P) bz bz))) (bn (o109 P) (bn (o175 P) (bn (o307 P) bz bz) (bn (o443 P) bz bz)) (bn (o243 P) (bn (o373 P) bz bz) bz))) (bn (o49 P) (bn (o90 P) (bn (o159 P) (bn (o291 P) bz bz) (bn (o427 P) bz bz)) (bn (o225 P) (bn (o357 P) bz bz) (bn (o497 P) bz bz))) (bn (o125 P) (bn (o191 P) (bn (o323 P) bz bz) (bn (o462 P) bz bz)) (bn (o259 P) (bn (o392 P) bz bz) bz)))) (bn (o19 P) (bn (o38 P) (bn (o79 P) (bn (o151 P) (bn (o283 P) bz bz) (bn (o419 P) bz bz)) (bn (o217 P) (bn (o349 P) bz bz) (bn (o489 P) bz bz))) (bn (o117 P) (bn (o183 P) (bn (o315 P) bz bz) (bn (o454 P) bz bz)) (bn (o251 P) (bn (o384 P) bz bz) bz))) (bn (o60 P) (bn (o98 P) (bn (o167 P) (bn (o299 P) bz bz) (bn (o435 P) bz bz)) (bn (o233 P) (bn (o365 P) bz bz) bz)) (bn (o133 P) (bn (o199 P) (bn (o331 P) bz bz) (bn (o475 P) bz bz)) (bn (o267 P) (bn (o400 P) bz bz) bz)))))) (bn (boot_o_6 P) (bn (boot_o_10 P) (bn (o9 P) (bn (o25 P) (bn (o66 P) (bn (o139 P) (bn (o273 P) bz bz) (bn (o406 P) bz bz)) (bn (o205 P) (bn (o339 P) bz bz) (bn (o479 P) bz bz))) (bn (o107 P) (bn (o173 P) (bn (o305 P) bz bz) (bn (o441 P) bz bz)) (bn (o241 P) (bn (o371 P) bz bz) bz))) (bn (o47 P) (bn (o85 P) (bn (o157 P) (bn (o289 P) bz bz) (bn (o425 P) bz bz)) (bn (o223 P) (bn (o355 P) bz bz) (bn (o495 P) bz bz))) (bn (o123 P) (bn (o189 P) (bn (o321 P) bz bz) (bn (o460 P) bz bz)) (bn (o257 P) (bn (o390 P) bz bz) bz)))) (bn (o17 P) (bn (o36 P) (bn (o77 P) (bn (o149 P) (bn (o281 P) bz bz) (bn (o417 P) bz bz)) (bn (o213 P) (bn (o347 P) bz bz) (bn (o487 P) bz bz))) (bn (o115 P) (bn (o181 P) (bn (o313 P) bz bz) (bn (o452 P) bz bz)) (bn (o249 P) (bn (o382 P) bz bz) bz))) (bn (o55 P) (bn (o96 P) (bn (o165 P) (bn (o297 P) bz bz) (bn (o433 P) bz bz)) (bn (o231 P) (bn (o363 P) bz bz) bz)) (bn (o131 P) (bn (o197 P) (bn (o329 P) bz bz) (bn (o468 P) bz bz)) (bn (o265 P) (bn (o398 P) bz bz) bz))))) (bn (o3 P) (bn (o13 P) (bn (o32 P) (bn (o70 P) (bn (o145 P) (bn (o277 P) bz bz) (bn (o413 P) bz bz)) (bn (o209 P) (bn (o343 P) bz bz) (bn (o483 P) bz bz))) (bn (o111 P) (bn (o177 P) (bn (o309 P) bz bz) (bn (o448 P) bz bz)) (bn (o245 P) (bn (o378 P) bz bz) bz))) (bn (o51 P) (bn (o92 P) (bn (o161 P) (bn (o293 P) bz bz) (bn (o429 P) bz bz)) (bn (o227 P) (bn (o359 P) bz bz) (bn (o499 P) bz bz))) (bn (o127 P) (bn (o193 P) (bn (o325 P) bz bz) (bn (o464 P) bz bz)) (bn (o261 P) (bn (o394 P) bz bz) bz)))) (bn (o21 P) (bn (o40 P) (bn (o81 P) (bn (o153 P) (bn (o285 P) bz bz) (bn (o421 P) bz bz)) (bn (o219 P) (bn (o351 P) bz bz) (bn (o491 P) bz bz))) (bn (o119 P) (bn (o185 P) (bn (o317 P) bz bz) (bn (o456 P) bz bz)) (bn (o253 P) (bn (o386 P) bz bz) bz))) (bn (o62 P) (bn (o100 P) (bn (o169 P) (bn (o301 P) bz bz) (bn (o437 P) bz bz)) (bn (o235 P) (bn (o367 P) bz bz) bz)) (bn (o135 P) (bn (o201 P) (bn (o333 P) bz bz) (bn (o472 P) bz bz)) (bn (o269 P) (bn (o402 P) bz bz) bz))))))))
theorem pc15 : Hd.Pc pp env T14 447 755 T15 473 789 293 [tp 32] ⟨202, 0, 211, 37⟩ ⟨212, 0, 219, 56⟩ := by
  intro w
  kernel_rfl
def o502 (P : Params) : Obj := ⟨.type "dict",none,.dict #[en P "__name__" 165 (.str "roomward.rules" 596),en P "__doc__" 166 .none,en P "__package__" 167 .none,en P "__loader__" 168 (.builtin "__main__.__loader__#opaque"),en P "__spec__" 169 .none,en P "__annotations__" 170 (.ref 6),en P "__builtins__" 171 (.ref 4),en P "__file__" 173 (.str "/claim/cut.py" 172),en P "__cached__" 174 .none,en P "_wall" 193 (.ref 21),en P "WardError" 213 (.ref 31),en P "NoName" 229 (.ref 44),en P "NoDeed" 245 (.ref 56),en P "NoRoom" 261 (.ref 68),en P "TwiceTold" 277 (.ref 80),en P "TooMany" 293 (.ref 92),en P "NoRule" 309 (.ref 104),en P "LETTERS" 313 (.str "abcdefghijklmnopqrstuvwxyz" 312),en P "FIGURES" 315 (.str "0123456789" 314),en P "MOST_SIGNS" 317 (.int 8 316),en P "MOST_DEEDS" 319 (.int 12 318),en P "is_name" 325 (.ref 111),en P "refuse_names" 334 (.ref 118),en P "weights_of" 344 (.ref 125),en P "marks_of" 353 (.ref 132),en P "Deeds" 440 (.ref 199),en P "MOST_ROOMS" 444 (.int 60 443),en P "named_rooms" 457 (.ref 210),en P "refuse_rooms" 465 (.ref 217),en P "leads_of" 477 (.ref 224),en P "Machine" 595 (.ref 317),en P "MOST_TIMES" 599 (.int 6 598),en P "is_times" 606 (.ref 328),en P "Rule" 640 (.ref 352),en P "Never" 680 (.ref 387),en P "Most" 720 (.ref 418),en P "OfTwo" 754 (.ref 444),en P "Ahead" 788 (.ref 470),en P "Turns" 822 (.ref 496)] 39,#[]⟩
def o503 (P : Params) : Obj := ⟨.none,none,.fields #[.int 1 0,.int 0 0,.ref 20,.int 5 0,.int 0 0,.ref 27,.int 7 0,.int 0 0,.ref 40,.int 9 0,.int 0 0,.ref 52,.int 11 0,.int 0 0,.ref 64,.int 13 0,.int 0 0,.ref 76,.int 15 0,.int 0 0,.ref 88,.int 17 0,.int 0 0,.ref 100,.int 24 0,.int 0 0,.ref 110,.int 29 0,.int 0 0,.ref 117,.int 39 0,.int 0 0,.ref 124,.int 46 0,.int 0 0,.ref 131,.int 51 0,.int 0 0,.ref 138,.int 84 0,.int 0 0,.ref 209,.int 91 0,.int 0 0,.ref 216,.int 95 0,.int 0 0,.ref 223,.int 104 0,.int 0 0,.ref 230,.int 168 0,.int 0 0,.ref 327,.int 170 0,.int 0 0,.ref 334,.int 177 0,.int 0 0,.ref 362,.int 187 0,.int 0 0,.ref 395,.int 202 0,.int 0 0,.ref 426,.int 212 0,.int 0 0,.ref 452,.int 220 0,.int 0 0,.ref 478],#[]⟩
def o504 (P : Params) : Obj := ⟨.type "type",none,.cls ⟨"OfTwo",[.ref 352],[.ref 444,.ref 352,.type "object"],443,"OfTwo",true,[],[.ref 470,.ref 496],false,none,false⟩,#[(some (.ref 421)),none,(some (.str "OfTwo" 721)),(some (.str "OfTwo" 729)),(some (.builtin "object.__new__")),(some (.bool true))]⟩
def o505 (P : Params) : Obj := ⟨.type "tuple",none,.seq #[.ref 444] 0,#[]⟩
def o506 (P : Params) : Obj := ⟨.type "builtin_function_or_method",none,.fields #[.builtin "type.__prepare__",.type "type"],#[]⟩
def o507 (P : Params) : Obj := ⟨.type "dict",none,.dict #[en P "__module__" 796 (.str "roomward.rules" 596),en P "__qualname__" 798 (.str "Turns" 797),en P "__firstlineno__" 800 (.int 220 799),en P "__init__" 809 (.ref 486),en P "machine" 818 (.ref 493),en P "__static_attributes__" 819 (.ref 494)] 6,#[]⟩
def o508 (P : Params) : Obj := ⟨.type "tuple",none,.seq #[] 0,#[]⟩
def o509 (P : Params) : Obj := ⟨.none,none,.fields #[.int 222 0,.int 4 0,.ref 485,.int 225 0,.int 4 0,.ref 492],#[]⟩
def o510 (P : Params) : Obj := ⟨.type "code",none,.fields #[.str "Turns" 791,.str "Turns" 792,.str "/claim/cut.py" 793,.int 220 0,.int 0 0,.int 0 0,.int 0 0,.int 0 0,.ref 476,.bool false,.int 181 0,.ref 477,.none,.none,.none,.none,.int 794 0,.int 220 0,.str "/claim/cut.py" 795],#[]⟩
def o511 (P : Params) : Obj := ⟨.type "frame",none,.plain,#[(some (.ref 478)),(some (.ref 3)),(some (.ref 475)),none,(some (.str "roomward.rules" 596)),none,(some (.ref 0))]⟩
def o512 (P : Params) : Obj := ⟨.type "tuple",none,.seq #[] 0,#[]⟩
def o513 (P : Params) : Obj := ⟨.none,none,.fields #[],#[]⟩
def o514 (P : Params) : Obj := ⟨.type "tuple",none,.seq #[.str "self" 804,.str "one" 805,.str "other" 806] 0,#[]⟩
def o515 (P : Params) : Obj := ⟨.type "tuple",none,.seq #[] 0,#[]⟩
def o516 (P : Params) : Obj := ⟨.none,none,.func ⟨"__init__","Turns.__init__",defArgs (inClass (tp 33) 0),.stmts (defBody (inClass (tp 33) 0)),defScope (inClass (tp 33) 0),0,[],.none,.none,.none,.none,none,.none,.none,0⟩,#[]⟩
def o517 (P : Params) : Obj := ⟨.type "code",none,.fields #[.str "__init__" 801,.str "Turns.__init__" 802,.str "/claim/cut.py" 803,.int 222 0,.int 3 0,.int 0 0,.int 0 0,.int 3 0,.ref 480,.bool true,.int 181 0,.ref 481,.none,.ref 482,.ref 483,.ref 484,.int 807 0,.int 222 0,.str "/claim/cut.py" 808],#[]⟩
def o518 (P : Params) : Obj := ⟨.type "function",none,.func ⟨"__init__","Turns.__init__",defArgs (inClass (tp 33) 0),.stmts (defBody (inClass (tp 33) 0)),defScope (inClass (tp 33) 0),3,[],.none,.none,.none,.str "roomward.rules" 596,none,.ref 485,.none,0⟩,#[]⟩
def o519 (P : Params) : Obj := ⟨.type "tuple",none,.seq #[] 0,#[]⟩
def o520 (P : Params) : Obj := ⟨.none,none,.fields #[],#[]⟩
def o521 (P : Params) : Obj := ⟨.type "tuple",none,.seq #[.str "self" 813,.str "deeds" 814,.str "doors" 815] 0,#[]⟩
def o522 (P : Params) : Obj := ⟨.type "tuple",none,.seq #[] 0,#[]⟩
def o523 (P : Params) : Obj := ⟨.none,none,.func ⟨"machine","Turns.machine",defArgs (inClass (tp 33) 1),.stmts (defBody (inClass (tp 33) 1)),defScope (inClass (tp 33) 1),0,[],.none,.none,.none,.none,none,.none,.none,0⟩,#[]⟩
def o524 (P : Params) : Obj := ⟨.type "code",none,.fields #[.str "machine" 810,.str "Turns.machine" 811,.str "/claim/cut.py" 812,.int 225 0,.int 2 0,.int 0 0,.int 0 0,.int 3 0,.ref 487,.bool true,.int 181 0,.ref 488,.none,.ref 489,.ref 490,.ref 491,.int 816 0,.int 225 0,.str "/claim/cut.py" 817],#[]⟩
def o525 (P : Params) : Obj := ⟨.type "function",none,.func ⟨"machine","Turns.machine",defArgs (inClass (tp 33) 1),.stmts (defBody (inClass (tp 33) 1)),defScope (inClass (tp 33) 1),3,[],.none,.none,.none,.str "roomward.rules" 596,none,.ref 492,.none,0⟩,#[]⟩
def o526 (P : Params) : Obj := ⟨.type "tuple",none,.seq #[] 0,#[]⟩
def o527 (P : Params) : Obj := ⟨.type "dict",none,.dict #[en P "__module__" 796 (.str "roomward.rules" 596),en P "__firstlineno__" 800 (.int 220 799),en P "__init__" 809 (.ref 486),en P "machine" 818 (.ref 493),en P "__static_attributes__" 819 (.ref 494),en P "__doc__" 820 .none] 2,#[]⟩
def o528 (P : Params) : Obj := ⟨.type "type",none,.cls ⟨"Turns",[.ref 444],[.ref 496,.ref 444,.ref 352,.type "object"],495,"Turns",true,[],[],false,none,false⟩,#[(some (.ref 473)),none,(some (.str "Turns" 789)),(some (.str "Turns" 797)),(some (.builtin "object.__new__")),(some (.bool true))]⟩
def o529 (P : Params) : Obj := ⟨.type "super",none,.fields #[.ref 496,.ref 496,.ref 496],#[]⟩
def o530 (P : Params) : Obj := ⟨.type "builtin_function_or_method",none,.fields #[.builtin "object.__init_subclass__",.ref 496],#[]⟩
noncomputable def T16 (P : Params) : BT := (bn (boot_o_0 P) (bn (boot_o_1 P) (bn (o502 P) (bn (boot_o_7 P) (bn (o6 P) (bn (o103 P) (bn (o63 P) (bn (o136 P) (bn (o270 P) bz bz) (bn (o403 P) bz bz)) (bn (o202 P) (bn (o334 P) bz bz) (bn (o476 P) bz bz))) (bn (o104 P) (bn (o170 P) (bn (o302 P) bz bz) (bn (o438 P) bz bz)) (bn (o236 P) (bn (o368 P) bz bz) (bn (o511 P) bz bz)))) (bn (o44 P) (bn (o82 P) (bn (o154 P) (bn (o286 P) bz bz) (bn (o422 P) bz bz)) (bn (o220 P) (bn (o352 P) bz bz) (bn (o492 P) bz bz))) (bn (o120 P) (bn (o186 P) (bn (o318 P) bz bz) (bn (o457 P) bz bz)) (bn (o254 P) (bn (o387 P) bz bz) (bn (o527 P) bz bz))))) (bn (o14 P) (bn (o33 P) (bn (o74 P) (bn (o146 P) (bn (o278 P) bz bz) (bn (o414 P) bz bz)) (bn (o210 P) (bn (o344 P) bz bz) (bn (o484 P) bz bz))) (bn (o112 P) (bn (o178 P) (bn (o310 P) bz bz) (bn (o449 P) bz bz)) (bn (o246 P) (bn (o379 P) bz bz) (bn (o519 P) bz bz)))) (bn (o52 P) (bn (o93 P) (bn (o162 P) (bn (o294 P) bz bz) (bn (o430 P) bz bz)) (bn (o228 P) (bn (o360 P) bz bz) (bn (o500 P) bz bz))) (bn (o128 P) (bn (o194 P) (bn (o326 P) bz bz) (bn (o465 P) bz bz)) (bn (o262 P) (bn (o395 P) bz bz) bz))))) (bn (o0 P) (bn (o10 P) (bn (o29 P) (bn (o67 P) (bn (o140 P) (bn (o274 P) bz bz) (bn (o407 P) bz bz)) (bn (o206 P) (bn (o340 P) bz bz) (bn (o480 P) bz bz))) (bn (o108 P) (bn (o174 P) (bn (o306 P) bz bz) (bn (o442 P) bz bz)) (bn (o242 P) (bn (o372 P) bz bz) (bn (o515 P) bz bz)))) (bn (o48 P) (bn (o89 P) (bn (o158 P) (bn (o290 P) bz bz) (bn (o426 P) bz bz)) (bn (o224 P) (bn (o356 P) bz bz) (bn (o496 P) bz bz))) (bn (o124 P) (bn (o190 P) (bn (o322 P) bz bz) (bn (o461 P) bz bz)) (bn (o258 P) (bn (o391 P) bz bz) bz)))) (bn (o18 P) (bn (o37 P) (bn (o78 P) (bn (o150 P) (bn (o282 P) bz bz) (bn (o418 P) bz bz)) (bn (o214 P) (bn (o348 P) bz bz) (bn (o488 P) bz bz))) (bn (o116 P) (bn (o182 P) (bn (o314 P) bz bz) (bn (o453 P) bz bz)) (bn (o250 P) (bn (o383 P) bz bz) (bn (o523 P) bz bz)))) (bn (o59 P) (bn (o97 P) (bn (o166 P) (bn (o298 P) bz bz) (bn (o434 P) bz bz)) (bn (o232 P) (bn (o364 P) bz bz) (bn (o507 P) bz bz))) (bn (o132 P) (bn (o198 P) (bn (o330 P) bz bz) (bn (o469 P) bz bz)) (bn (o266 P) (bn (o399 P) bz bz) bz)))))) (bn (boot_o_5 P) (bn (boot_o_9 P) (bn (o8 P) (bn (o24 P) (bn (o65 P) (bn (o138 P) (bn (o272 P) bz bz) (bn (o405 P) bz bz)) (bn (o204 P) (bn (o336 P) bz bz) (bn (o478 P) bz bz))) (bn (o106 P) (bn (o172 P) (bn (o304 P) bz bz) (bn (o440 P) bz bz)) (bn (o240 P) (bn (o370 P) bz bz) (bn (o513 P) bz bz)))) (bn (o46 P) (bn (o84 P) (bn (o156 P) (bn (o288 P) bz bz) (bn (o424 P) bz bz)) (bn (o222 P) (bn (o354 P) bz bz) (bn (o494 P) bz bz))) (bn (o122 P) (bn (o188 P) (bn (o320 P) bz bz) (bn (o459 P) bz bz)) (bn (o256 P) (bn (o389 P) bz bz) (bn (o529 P) bz bz))))) (bn (o16 P) (bn (o35 P) (bn (o76 P) (bn (o148 P) (bn (o280 P) bz bz) (bn (o416 P) bz bz)) (bn (o212 P) (bn (o346 P) bz bz) (bn (o486 P) bz bz))) (bn (o114 P) (bn (o180 P) (bn (o312 P) bz bz) (bn (o451 P) bz bz)) (bn (o248 P) (bn (o381 P) bz bz) (bn (o521 P) bz bz)))) (bn (o54 P) (bn (o95 P) (bn (o164 P) (bn (o296 P) bz bz) (bn (o432 P) bz bz)) (bn (o230 P) (bn (o362 P) bz bz) (bn (o505 P) bz bz))) (bn (o130 P) (bn (o196 P) (bn (o328 P) bz bz) (bn (o467 P) bz bz)) (bn (o264 P) (bn (o397 P) bz bz) bz))))) (bn (o2 P) (bn (o12 P) (bn (o31 P) (bn (o69 P) (bn (o144 P) (bn (o276 P) bz bz) (bn (o409 P) bz bz)) (bn (o208 P) (bn (o342 P) bz bz) (bn (o482 P) bz bz))) (bn (o110 P) (bn (o176 P) (bn (o308 P) bz bz) (bn (o447 P) bz bz)) (bn (o244 P) (bn (o377 P) bz bz) (bn (o517 P) bz bz)))) (bn (o50 P) (bn (o91 P) (bn (o160 P) (bn (o292 P) bz bz) (bn (o428 P) bz bz)) (bn (o226 P) (bn (o358 P) bz bz) (bn (o498 P) bz bz))) (bn (o126 P) (bn (o192 P) (bn (o324 P) bz bz) (bn (o463 P) bz bz)) (bn (o260 P) (bn (o393 P) bz bz) bz)))) (bn (o20 P) (bn (o39 P) (bn (o80 P) (bn (o152 P) (bn (o284 P) bz bz) (bn (o420 P) bz bz)) (bn (o218 P) (bn (o350 P) bz bz) (bn (o490 P) bz bz))) (bn (o118 P) (bn (o184 P) (bn (o316 P) bz bz) (bn (o455 P) bz bz)) (bn (o252 P) (bn (o385 P) bz bz) (bn (o525 P) bz bz)))) (bn (o61 P) (bn (o99 P) (bn (o168 P) (bn (o300 P) bz bz) (bn (o436 P) bz bz)) (bn (o234 P) (bn (o366 P) bz bz) (bn (o509 P) bz bz))) (bn (o134 P) (bn (o200 P) (bn (o332 P) bz bz) (bn (o471 P) bz bz)) (bn (o268 P) (bn (o401 P) bz bz) bz))))))) (bn (boot_o_2 P) (bn (boot_o_4 P) (bn (boot_o_8 P) (bn (o7 P) (bn (o23 P) (bn (o64 P) (bn (o137 P) (bn (o271 P) bz bz) (bn (o404 P) bz bz)) (bn (o203 P) (bn (o335 P) bz bz) (bn (o477 P) bz bz))) (bn (o105 P) (bn (o171 P) (bn (o303 P) bz bz) (bn (o439 P) bz bz)) (bn (o237 P) (bn (o446 P) bz bz) (bn (o512 P) bz bz)))) (bn (o45 P) (bn (o83 P) (bn (o155 P) (bn (o287 P) bz bz) (bn (o423 P) bz bz)) (bn (o221 P) (bn (o353 P) bz bz) (bn (o493 P) bz bz))) (bn (o121 P) (bn (o187 P) (bn (o319 P) bz bz) (bn (o458 P) bz bz)) (bn (o255 P) (bn (o388 P) bz bz) (bn (o528 P) bz bz))))) (bn (o15 P) (bn (o34 P) (bn (o75 P) (bn (o147 P) (bn (o279 P) bz bz) (bn (o415 P) bz bz)) (bn (o211 P) (bn (o345 P) bz bz) (bn (o485 P) bz bz))) (bn (o113 P) (bn (o179 P) (bn (o311 P) bz bz) (bn (o450 P) bz bz)) (bn (o247 P) (bn (o380 P) bz bz) (bn (o520 P) bz bz)))) (bn (o53 P) (bn (o94 P) (bn (o163 P) (bn (o295 P) bz bz) (bn (o431 P) bz bz)) (bn (o229 P) (bn (o361 P) bz bz) (bn (o501 P) bz bz))) (bn (o129 P) (bn (o195 P) (bn (o327 P) bz bz) (bn (o466 P) bz bz)) (bn (o263 P) (bn (o396 P) bz bz) bz))))) (bn (o503 P) (bn (o11 P) (bn (o30 P) (bn (o68 P) (bn (o141 P) (bn (o275 P) bz bz) (bn (o408 P) bz bz)) (bn (o207 P) (bn (o341 P) bz bz) (bn (o481 P) bz bz))) (bn (o109 P) (bn (o175 P) (bn (o307 P) bz bz) (bn (o443 P) bz bz)) (bn (o243 P) (bn (o373 P) bz bz) (bn (o516 P) bz bz)))) (bn (o49 P) (bn (o90 P) (bn (o159 P) (bn (o291 P) bz bz) (bn (o427 P) bz bz)) (bn (o225 P) (bn (o357 P) bz bz) (bn (o497 P) bz bz))) (bn (o125 P) (bn (o191 P) (bn (o323 P) bz bz) (bn (o462 P) bz bz)) (bn (o259 P) (bn (o392 P) bz bz) bz)))) (bn (o19 P) (bn (o38 P) (bn (o79 P) (bn (o151 P) (bn (o283 P) bz bz) (bn (o419 P) bz bz)) (bn (o217 P) (bn (o349 P) bz bz) (bn (o489 P) bz bz))) (bn (o117 P) (bn (o183 P) (bn (o315 P) bz bz) (bn (o454 P) bz bz)) (bn (o251 P) (bn (o384 P) bz bz) (bn (o524 P) bz bz)))) (bn (o60 P) (bn (o98 P) (bn (o167 P) (bn (o299 P) bz bz) (bn (o435 P) bz bz)) (bn (o233 P) (bn (o365 P) bz bz) (bn (o508 P) bz bz))) (bn (o133 P) (bn (o199 P) (bn (o331 P) bz bz) (bn (o504 P) bz bz)) (bn (o267 P) (bn (o400 P) bz bz) bz)))))) (bn (boot_o_6 P) (bn (boot_o_10 P) (bn (o9 P) (bn (o25 P) (bn (o66 P) (bn (o139 P) (bn (o273 P) bz bz) (bn (o406 P) bz bz)) (bn (o205 P) (bn (o339 P) bz bz) (bn (o479 P) bz bz))) (bn (o107 P) (bn (o173 P) (bn (o305 P) bz bz) (bn (o441 P) bz bz)) (bn (o241 P) (bn (o371 P) bz bz) (bn (o514 P) bz bz)))) (bn (o47 P) (bn (o85 P) (bn (o157 P) (bn (o289 P) bz bz) (bn (o425 P) bz bz)) (bn (o223 P) (bn (o355 P) bz bz) (bn (o495 P) bz bz))) (bn (o123 P) (bn (o189 P) (bn (o321 P) bz bz) (bn (o460 P) bz bz)) (bn (o257 P) (bn (o390 P) bz bz) (bn (o530 P) bz bz))))) (bn (o17 P) (bn (o36 P) (bn (o77 P) (bn (o149 P) (bn (o281 P) bz bz) (bn (o417 P) bz bz)) (bn (o213 P) (bn (o347 P) bz bz) (bn (o487 P) bz bz))) (bn (o115 P) (bn (o181 P) (bn (o313 P) bz bz) (bn (o452 P) bz bz)) (bn (o249 P) (bn (o382 P) bz bz) (bn (o522 P) bz bz)))) (bn (o55 P) (bn (o96 P) (bn (o165 P) (bn (o297 P) bz bz) (bn (o433 P) bz bz)) (bn (o231 P) (bn (o363 P) bz bz) (bn (o506 P) bz bz))) (bn (o131 P) (bn (o197 P) (bn (o329 P) bz bz) (bn (o468 P) bz bz)) (bn (o265 P) (bn (o398 P) bz bz) bz))))) (bn (o3 P) (bn (o13 P) (bn (o32 P) (bn (o70 P) (bn (o145 P) (bn (o277 P) bz bz) (bn (o413 P) bz bz)) (bn (o209 P) (bn (o343 P) bz bz) (bn (o483 P) bz bz))) (bn (o111 P) (bn (o177 P) (bn (o309 P) bz bz) (bn (o448 P) bz bz)) (bn (o245 P) (bn (o378 P) bz bz) (bn (o518 P) bz bz)))) (bn (o51 P) (bn (o92 P) (bn (o161 P) (bn (o293 P) bz bz) (bn (o429 P) bz bz)) (bn (o227 P) (bn (o359 P) bz bz) (bn (o499 P) bz bz))) (bn (o127 P) (bn (o193 P) (bn (o325 P) bz bz) (bn (o464 P) bz bz)) (bn (o261 P) (bn (o394 P) bz bz) bz)))) (bn (o21 P) (bn (o40 P) (bn (o81 P) (bn (o153 P) (bn (o285 P) bz bz) (bn (o421 P) bz bz)) (bn (o219 P) (bn (o351 P) bz bz) (bn (o491 P) bz bz))) (bn (o119 P) (bn (o185 P) (bn (o317 P) bz bz) (bn (o456 P) bz bz)) (bn (o253 P) (bn (o386 P) bz bz) (bn (o526 P) bz bz)))) (bn (o62 P) (bn (o100 P) (bn (o169 P) (bn (o301 P) bz bz) (bn (o437 P) bz bz)) (bn (o235 P) (bn (o367 P) bz bz) (bn (o510 P) bz bz))) (bn (o135 P) (bn (o201 P) (bn (o333 P) bz bz) (bn (o472 P) bz bz)) (bn (o269 P) (bn (o402 P) bz bz) bz))))))))
theorem pc16 : Hd.Pc pp env T15 473 789 T16 499 823 293 [tp 33] ⟨212, 0, 219, 56⟩ ⟨220, 0, 227, 56⟩ := by
  intro w
  kernel_rfl
def o531 (P : Params) : Obj := ⟨.type "dict",none,.dict #[en P "__name__" 165 (.str "roomward.rules" 596),en P "__doc__" 166 .none,en P "__package__" 167 .none,en P "__loader__" 168 (.builtin "__main__.__loader__#opaque"),en P "__spec__" 169 .none,en P "__annotations__" 170 (.ref 6),en P "__builtins__" 171 (.ref 4),en P "__file__" 173 (.str "/claim/cut.py" 172),en P "__cached__" 174 .none,en P "_wall" 193 (.ref 21),en P "WardError" 213 (.ref 31),en P "NoName" 229 (.ref 44),en P "NoDeed" 245 (.ref 56),en P "NoRoom" 261 (.ref 68),en P "TwiceTold" 277 (.ref 80),en P "TooMany" 293 (.ref 92),en P "NoRule" 309 (.ref 104),en P "LETTERS" 313 (.str "abcdefghijklmnopqrstuvwxyz" 312),en P "FIGURES" 315 (.str "0123456789" 314),en P "MOST_SIGNS" 317 (.int 8 316),en P "MOST_DEEDS" 319 (.int 12 318),en P "is_name" 325 (.ref 111),en P "refuse_names" 334 (.ref 118),en P "weights_of" 344 (.ref 125),en P "marks_of" 353 (.ref 132),en P "Deeds" 440 (.ref 199),en P "MOST_ROOMS" 444 (.int 60 443),en P "named_rooms" 457 (.ref 210),en P "refuse_rooms" 465 (.ref 217),en P "leads_of" 477 (.ref 224),en P "Machine" 595 (.ref 317),en P "MOST_TIMES" 599 (.int 6 598),en P "is_times" 606 (.ref 328),en P "Rule" 640 (.ref 352),en P "Never" 680 (.ref 387),en P "Most" 720 (.ref 418),en P "OfTwo" 754 (.ref 444),en P "Ahead" 788 (.ref 470),en P "Turns" 822 (.ref 496),en P "Hold" 856 (.ref 522)] 40,#[]⟩
def o532 (P : Params) : Obj := ⟨.none,none,.fields #[.int 1 0,.int 0 0,.ref 20,.int 5 0,.int 0 0,.ref 27,.int 7 0,.int 0 0,.ref 40,.int 9 0,.int 0 0,.ref 52,.int 11 0,.int 0 0,.ref 64,.int 13 0,.int 0 0,.ref 76,.int 15 0,.int 0 0,.ref 88,.int 17 0,.int 0 0,.ref 100,.int 24 0,.int 0 0,.ref 110,.int 29 0,.int 0 0,.ref 117,.int 39 0,.int 0 0,.ref 124,.int 46 0,.int 0 0,.ref 131,.int 51 0,.int 0 0,.ref 138,.int 84 0,.int 0 0,.ref 209,.int 91 0,.int 0 0,.ref 216,.int 95 0,.int 0 0,.ref 223,.int 104 0,.int 0 0,.ref 230,.int 168 0,.int 0 0,.ref 327,.int 170 0,.int 0 0,.ref 334,.int 177 0,.int 0 0,.ref 362,.int 187 0,.int 0 0,.ref 395,.int 202 0,.int 0 0,.ref 426,.int 212 0,.int 0 0,.ref 452,.int 220 0,.int 0 0,.ref 478,.int 228 0,.int 0 0,.ref 504],#[]⟩
def o533 (P : Params) : Obj := ⟨.type "type",none,.cls ⟨"OfTwo",[.ref 352],[.ref 444,.ref 352,.type "object"],443,"OfTwo",true,[],[.ref 470,.ref 496,.ref 522],false,none,false⟩,#[(some (.ref 421)),none,(some (.str "OfTwo" 721)),(some (.str "OfTwo" 729)),(some (.builtin "object.__new__")),(some (.bool true))]⟩
def o534 (P : Params) : Obj := ⟨.type "tuple",none,.seq #[.ref 444] 0,#[]⟩
def o535 (P : Params) : Obj := ⟨.type "builtin_function_or_method",none,.fields #[.builtin "type.__prepare__",.type "type"],#[]⟩
def o536 (P : Params) : Obj := ⟨.type "dict",none,.dict #[en P "__module__" 830 (.str "roomward.rules" 596),en P "__qualname__" 832 (.str "Hold" 831),en P "__firstlineno__" 834 (.int 228 833),en P "__init__" 843 (.ref 512),en P "machine" 852 (.ref 519),en P "__static_attributes__" 853 (.ref 520)] 6,#[]⟩
def o537 (P : Params) : Obj := ⟨.type "tuple",none,.seq #[] 0,#[]⟩
def o538 (P : Params) : Obj := ⟨.none,none,.fields #[.int 230 0,.int 4 0,.ref 511,.int 233 0,.int 4 0,.ref 518],#[]⟩
def o539 (P : Params) : Obj := ⟨.type "code",none,.fields #[.str "Hold" 825,.str "Hold" 826,.str "/claim/cut.py" 827,.int 228 0,.int 0 0,.int 0 0,.int 0 0,.int 0 0,.ref 502,.bool false,.int 181 0,.ref 503,.none,.none,.none,.none,.int 828 0,.int 228 0,.str "/claim/cut.py" 829],#[]⟩
def o540 (P : Params) : Obj := ⟨.type "frame",none,.plain,#[(some (.ref 504)),(some (.ref 3)),(some (.ref 501)),none,(some (.str "roomward.rules" 596)),none,(some (.ref 0))]⟩
def o541 (P : Params) : Obj := ⟨.type "tuple",none,.seq #[] 0,#[]⟩
def o542 (P : Params) : Obj := ⟨.none,none,.fields #[],#[]⟩
def o543 (P : Params) : Obj := ⟨.type "tuple",none,.seq #[.str "self" 838,.str "deed" 839,.str "other" 840] 0,#[]⟩
def o544 (P : Params) : Obj := ⟨.type "tuple",none,.seq #[] 0,#[]⟩
def o545 (P : Params) : Obj := ⟨.none,none,.func ⟨"__init__","Hold.__init__",defArgs (inClass (tp 34) 0),.stmts (defBody (inClass (tp 34) 0)),defScope (inClass (tp 34) 0),0,[],.none,.none,.none,.none,none,.none,.none,0⟩,#[]⟩
def o546 (P : Params) : Obj := ⟨.type "code",none,.fields #[.str "__init__" 835,.str "Hold.__init__" 836,.str "/claim/cut.py" 837,.int 230 0,.int 3 0,.int 0 0,.int 0 0,.int 3 0,.ref 506,.bool true,.int 181 0,.ref 507,.none,.ref 508,.ref 509,.ref 510,.int 841 0,.int 230 0,.str "/claim/cut.py" 842],#[]⟩
def o547 (P : Params) : Obj := ⟨.type "function",none,.func ⟨"__init__","Hold.__init__",defArgs (inClass (tp 34) 0),.stmts (defBody (inClass (tp 34) 0)),defScope (inClass (tp 34) 0),3,[],.none,.none,.none,.str "roomward.rules" 596,none,.ref 511,.none,0⟩,#[]⟩
def o548 (P : Params) : Obj := ⟨.type "tuple",none,.seq #[] 0,#[]⟩
def o549 (P : Params) : Obj := ⟨.none,none,.fields #[],#[]⟩
def o550 (P : Params) : Obj := ⟨.type "tuple",none,.seq #[.str "self" 847,.str "deeds" 848,.str "doors" 849] 0,#[]⟩
def o551 (P : Params) : Obj := ⟨.type "tuple",none,.seq #[] 0,#[]⟩
def o552 (P : Params) : Obj := ⟨.none,none,.func ⟨"machine","Hold.machine",defArgs (inClass (tp 34) 1),.stmts (defBody (inClass (tp 34) 1)),defScope (inClass (tp 34) 1),0,[],.none,.none,.none,.none,none,.none,.none,0⟩,#[]⟩
def o553 (P : Params) : Obj := ⟨.type "code",none,.fields #[.str "machine" 844,.str "Hold.machine" 845,.str "/claim/cut.py" 846,.int 233 0,.int 2 0,.int 0 0,.int 0 0,.int 3 0,.ref 513,.bool true,.int 181 0,.ref 514,.none,.ref 515,.ref 516,.ref 517,.int 850 0,.int 233 0,.str "/claim/cut.py" 851],#[]⟩
def o554 (P : Params) : Obj := ⟨.type "function",none,.func ⟨"machine","Hold.machine",defArgs (inClass (tp 34) 1),.stmts (defBody (inClass (tp 34) 1)),defScope (inClass (tp 34) 1),3,[],.none,.none,.none,.str "roomward.rules" 596,none,.ref 518,.none,0⟩,#[]⟩
def o555 (P : Params) : Obj := ⟨.type "tuple",none,.seq #[] 0,#[]⟩
def o556 (P : Params) : Obj := ⟨.type "dict",none,.dict #[en P "__module__" 830 (.str "roomward.rules" 596),en P "__firstlineno__" 834 (.int 228 833),en P "__init__" 843 (.ref 512),en P "machine" 852 (.ref 519),en P "__static_attributes__" 853 (.ref 520),en P "__doc__" 854 .none] 2,#[]⟩
def o557 (P : Params) : Obj := ⟨.type "type",none,.cls ⟨"Hold",[.ref 444],[.ref 522,.ref 444,.ref 352,.type "object"],521,"Hold",true,[],[],false,none,false⟩,#[(some (.ref 499)),none,(some (.str "Hold" 823)),(some (.str "Hold" 831)),(some (.builtin "object.__new__")),(some (.bool true))]⟩
def o558 (P : Params) : Obj := ⟨.type "super",none,.fields #[.ref 522,.ref 522,.ref 522],#[]⟩
def o559 (P : Params) : Obj := ⟨.type "builtin_function_or_method",none,.fields #[.builtin "object.__init_subclass__",.ref 522],#[]⟩
noncomputable def T17 (P : Params) : BT := (bn (boot_o_0 P) (bn (boot_o_1 P) (bn (o531 P) (bn (boot_o_7 P) (bn (o6 P) (bn (o103 P) (bn (o63 P) (bn (o136 P) (bn (o270 P) (bn (o546 P) bz bz) bz) (bn (o403 P) bz bz)) (bn (o202 P) (bn (o334 P) bz bz) (bn (o476 P) bz bz))) (bn (o104 P) (bn (o170 P) (bn (o302 P) bz bz) (bn (o438 P) bz bz)) (bn (o236 P) (bn (o368 P) bz bz) (bn (o511 P) bz bz)))) (bn (o44 P) (bn (o82 P) (bn (o154 P) (bn (o286 P) bz bz) (bn (o422 P) bz bz)) (bn (o220 P) (bn (o352 P) bz bz) (bn (o492 P) bz bz))) (bn (o120 P) (bn (o186 P) (bn (o318 P) bz bz) (bn (o457 P) bz bz)) (bn (o254 P) (bn (o387 P) bz bz) (bn (o527 P) bz bz))))) (bn (o14 P) (bn (o33 P) (bn (o74 P) (bn (o146 P) (bn (o278 P) (bn (o554 P) bz bz) bz) (bn (o414 P) bz bz)) (bn (o210 P) (bn (o344 P) bz bz) (bn (o484 P) bz bz))) (bn (o112 P) (bn (o178 P) (bn (o310 P) bz bz) (bn (o449 P) bz bz)) (bn (o246 P) (bn (o379 P) bz bz) (bn (o519 P) bz bz)))) (bn (o52 P) (bn (o93 P) (bn (o162 P) (bn (o294 P) bz bz) (bn (o430 P) bz bz)) (bn (o228 P) (bn (o360 P) bz bz) (bn (o500 P) bz bz))) (bn (o128 P) (bn (o194 P) (bn (o326 P) bz bz) (bn (o465 P) bz bz)) (bn (o262 P) (bn (o395 P) bz bz) (bn (o538 P) bz bz)))))) (bn (o0 P) (bn (o10 P) (bn (o29 P) (bn (o67 P) (bn (o140 P) (bn (o274 P) (bn (o550 P) bz bz) bz) (bn (o407 P) bz bz)) (bn (o206 P) (bn (o340 P) bz bz) (bn (o480 P) bz bz))) (bn (o108 P) (bn (o174 P) (bn (o306 P) bz bz) (bn (o442 P) bz bz)) (bn (o242 P) (bn (o372 P) bz bz) (bn (o515 P) bz bz)))) (bn (o48 P) (bn (o89 P) (bn (o158 P) (bn (o290 P) bz bz) (bn (o426 P) bz bz)) (bn (o224 P) (bn (o356 P) bz bz) (bn (o496 P) bz bz))) (bn (o124 P) (bn (o190 P) (bn (o322 P) bz bz) (bn (o461 P) bz bz)) (bn (o258 P) (bn (o391 P) bz bz) (bn (o534 P) bz bz))))) (bn (o18 P) (bn (o37 P) (bn (o78 P) (bn (o150 P) (bn (o282 P) (bn (o558 P) bz bz) bz) (bn (o418 P) bz bz)) (bn (o214 P) (bn (o348 P) bz bz) (bn (o488 P) bz bz))) (bn (o116 P) (bn (o182 P) (bn (o314 P) bz bz) (bn (o453 P) bz bz)) (bn (o250 P) (bn (o383 P) bz bz) (bn (o523 P) bz bz)))) (bn (o59 P) (bn (o97 P) (bn (o166 P) (bn (o298 P) bz bz) (bn (o434 P) bz bz)) (bn (o232 P) (bn (o364 P) bz bz) (bn (o507 P) bz bz))) (bn (o132 P) (bn (o198 P) (bn (o330 P) bz bz) (bn (o469 P) bz bz)) (bn (o266 P) (bn (o399 P) bz bz) (bn (o542 P) bz bz))))))) (bn (boot_o_5 P) (bn (boot_o_9 P) (bn (o8 P) (bn (o24 P) (bn (o65 P) (bn (o138 P) (bn (o272 P) (bn (o548 P) bz bz) bz) (bn (o405 P) bz bz)) (bn (o204 P) (bn (o336 P) bz bz) (bn (o478 P) bz bz))) (bn (o106 P) (bn (o172 P) (bn (o304 P) bz bz) (bn (o440 P) bz bz)) (bn (o240 P) (bn (o370 P) bz bz) (bn (o513 P) bz bz)))) (bn (o46 P) (bn (o84 P) (bn (o156 P) (bn (o288 P) bz bz) (bn (o424 P) bz bz)) (bn (o222 P) (bn (o354 P) bz bz) (bn (o494 P) bz bz))) (bn (o122 P) (bn (o188 P) (bn (o320 P) bz bz) (bn (o459 P) bz bz)) (bn (o256 P) (bn (o389 P) bz bz) (bn (o529 P) bz bz))))) (bn (o16 P) (bn (o35 P) (bn (o76 P) (bn (o148 P) (bn (o280 P) (bn (o556 P) bz bz) bz) (bn (o416 P) bz bz)) (bn (o212 P) (bn (o346 P) bz bz) (bn (o486 P) bz bz))) (bn (o114 P) (bn (o180 P) (bn (o312 P) bz bz) (bn (o451 P) bz bz)) (bn (o248 P) (bn (o381 P) bz bz) (bn (o521 P) bz bz)))) (bn (o54 P) (bn (o95 P) (bn (o164 P) (bn (o296 P) bz bz) (bn (o432 P) bz bz)) (bn (o230 P) (bn (o362 P) bz bz) (bn (o505 P) bz bz))) (bn (o130 P) (bn (o196 P) (bn (o328 P) bz bz) (bn (o467 P) bz bz)) (bn (o264 P) (bn (o397 P) bz bz) (bn (o540 P) bz bz)))))) (bn (o2 P) (bn (o12 P) (bn (o31 P) (bn (o69 P) (bn (o144 P) (bn (o276 P) (bn (o552 P) bz bz) bz) (bn (o409 P) bz bz)) (bn (o208 P) (bn (o342 P) bz bz) (bn (o482 P) bz bz))) (bn (o110 P) (bn (o176 P) (bn (o308 P) bz bz) (bn (o447 P) bz bz)) (bn (o244 P) (bn (o377 P) bz bz) (bn (o517 P) bz bz)))) (bn (o50 P) (bn (o91 P) (bn (o160 P) (bn (o292 P) bz bz) (bn (o428 P) bz bz)) (bn (o226 P) (bn (o358 P) bz bz) (bn (o498 P) bz bz))) (bn (o126 P) (bn (o192 P) (bn (o324 P) bz bz) (bn (o463 P) bz bz)) (bn (o260 P) (bn (o393 P) bz bz) (bn (o536 P) bz bz))))) (bn (o20 P) (bn (o39 P) (bn (o80 P) (bn (o152 P) (bn (o284 P) bz bz) (bn (o420 P) bz bz)) (bn (o218 P) (bn (o350 P) bz bz) (bn (o490 P) bz bz))) (bn (o118 P) (bn (o184 P) (bn (o316 P) bz bz) (bn (o455 P) bz bz)) (bn (o252 P) (bn (o385 P) bz bz) (bn (o525 P) bz bz)))) (bn (o61 P) (bn (o99 P) (bn (o168 P) (bn (o300 P) bz bz) (bn (o436 P) bz bz)) (bn (o234 P) (bn (o366 P) bz bz) (bn (o509 P) bz bz))) (bn (o134 P) (bn (o200 P) (bn (o332 P) bz bz) (bn (o471 P) bz bz)) (bn (o268 P) (bn (o401 P) bz bz) (bn (o544 P) bz bz)))))))) (bn (boot_o_2 P) (bn (boot_o_4 P) (bn (boot_o_8 P) (bn (o7 P) (bn (o23 P) (bn (o64 P) (bn (o137 P) (bn (o271 P) (bn (o547 P) bz bz) bz) (bn (o404 P) bz bz)) (bn (o203 P) (bn (o335 P) bz bz) (bn (o477 P) bz bz))) (bn (o105 P) (bn (o171 P) (bn (o303 P) bz bz) (bn (o439 P) bz bz)) (bn (o237 P) (bn (o446 P) bz bz) (bn (o512 P) bz bz)))) (bn (o45 P) (bn (o83 P) (bn (o155 P) (bn (o287 P) bz bz) (bn (o423 P) bz bz)) (bn (o221 P) (bn (o353 P) bz bz) (bn (o493 P) bz bz))) (bn (o121 P) (bn (o187 P) (bn (o319 P) bz bz) (bn (o458 P) bz bz)) (bn (o255 P) (bn (o388 P) bz bz) (bn (o528 P) bz bz))))) (bn (o15 P) (bn (o34 P) (bn (o75 P) (bn (o147 P) (bn (o279 P) (bn (o555 P) bz bz) bz) (bn (o415 P) bz bz)) (bn (o211 P) (bn (o345 P) bz bz) (bn (o485 P) bz bz))) (bn (o113 P) (bn (o179 P) (bn (o311 P) bz bz) (bn (o450 P) bz bz)) (bn (o247 P) (bn (o380 P) bz bz) (bn (o520 P) bz bz)))) (bn (o53 P) (bn (o94 P) (bn (o163 P) (bn (o295 P) bz bz) (bn (o431 P) bz bz)) (bn (o229 P) (bn (o361 P) bz bz) (bn (o501 P) bz bz))) (bn (o129 P) (bn (o195 P) (bn (o327 P) bz bz) (bn (o466 P) bz bz)) (bn (o263 P) (bn (o396 P) bz bz) (bn (o539 P) bz bz)))))) (bn (o532 P) (bn (o11 P) (bn (o30 P) (bn (o68 P) (bn (o141 P) (bn (o275 P) (bn (o551 P) bz bz) bz) (bn (o408 P) bz bz)) (bn (o207 P) (bn (o341 P) bz bz) (bn (o481 P) bz bz))) (bn (o109 P) (bn (o175 P) (bn (o307 P) bz bz) (bn (o443 P) bz bz)) (bn (o243 P) (bn (o373 P) bz bz) (bn (o516 P) bz bz)))) (bn (o49 P) (bn (o90 P) (bn (o159 P) (bn (o291 P) bz bz) (bn (o427 P) bz bz)) (bn (o225 P) (bn (o357 P) bz bz) (bn (o497 P) bz bz))) (bn (o125 P) (bn (o191 P) (bn (o323 P) bz bz) (bn (o462 P) bz bz)) (bn (o259 P) (bn (o392 P) bz bz) (bn (o535 P) bz bz))))) (bn (o19 P) (bn (o38 P) (bn (o79 P) (bn (o151 P) (bn (o283 P) (bn (o559 P) bz bz) bz) (bn (o419 P) bz bz)) (bn (o217 P) (bn (o349 P) bz bz) (bn (o489 P) bz bz))) (bn (o117 P) (bn (o183 P) (bn (o315 P) bz bz) (bn (o454 P) bz bz)) (bn (o251 P) (bn (o384 P) bz bz) (bn (o524 P) bz bz)))) (bn (o60 P) (bn (o98 P) (bn (o167 P) (bn (o299 P) bz bz) (bn (o435 P) bz bz)) (bn (o233 P) (bn (o365 P) bz bz) (bn (o508 P) bz bz))) (bn (o133 P) (bn (o199 P) (bn (o331 P) bz bz) (bn (o533 P) bz bz)) (bn (o267 P) (bn (o400 P) bz bz) (bn (o543 P) bz bz))))))) (bn (boot_o_6 P) (bn (boot_o_10 P) (bn (o9 P) (bn (o25 P) (bn (o66 P) (bn (o139 P) (bn (o273 P) (bn (o549 P) bz bz) bz) (bn (o406 P) bz bz)) (bn (o205 P) (bn (o339 P) bz bz) (bn (o479 P) bz bz))) (bn (o107 P) (bn (o173 P) (bn (o305 P) bz bz) (bn (o441 P) bz bz)) (bn (o241 P) (bn (o371 P) bz bz) (bn (o514 P) bz bz)))) (bn (o47 P) (bn (o85 P) (bn (o157 P) (bn (o289 P) bz bz) (bn (o425 P) bz bz)) (bn (o223 P) (bn (o355 P) bz bz) (bn (o495 P) bz bz))) (bn (o123 P) (bn (o189 P) (bn (o321 P) bz bz) (bn (o460 P) bz bz)) (bn (o257 P) (bn (o390 P) bz bz) (bn (o530 P) bz bz))))) (bn (o17 P) (bn (o36 P) (bn (o77 P) (bn (o149 P) (bn (o281 P) (bn (o557 P) bz bz) bz) (bn (o417 P) bz bz)) (bn (o213 P) (bn (o347 P) bz bz) (bn (o487 P) bz bz))) (bn (o115 P) (bn (o181 P) (bn (o313 P) bz bz) (bn (o452 P) bz bz)) (bn (o249 P) (bn (o382 P) bz bz) (bn (o522 P) bz bz)))) (bn (o55 P) (bn (o96 P) (bn (o165 P) (bn (o297 P) bz bz) (bn (o433 P) bz bz)) (bn (o231 P) (bn (o363 P) bz bz) (bn (o506 P) bz bz))) (bn (o131 P) (bn (o197 P) (bn (o329 P) bz bz) (bn (o468 P) bz bz)) (bn (o265 P) (bn (o398 P) bz bz) (bn (o541 P) bz bz)))))) (bn (o3 P) (bn (o13 P) (bn (o32 P) (bn (o70 P) (bn (o145 P) (bn (o277 P) (bn (o553 P) bz bz) bz) (bn (o413 P) bz bz)) (bn (o209 P) (bn (o343 P) bz bz) (bn (o483 P) bz bz))) (bn (o111 P) (bn (o177 P) (bn (o309 P) bz bz) (bn (o448 P) bz bz)) (bn (o245 P) (bn (o378 P) bz bz) (bn (o518 P) bz bz)))) (bn (o51 P) (bn (o92 P) (bn (o161 P) (bn (o293 P) bz bz) (bn (o429 P) bz bz)) (bn (o227 P) (bn (o359 P) bz bz) (bn (o499 P) bz bz))) (bn (o127 P) (bn (o193 P) (bn (o325 P) bz bz) (bn (o464 P) bz bz)) (bn (o261 P) (bn (o394 P) bz bz) (bn (o537 P) bz bz))))) (bn (o21 P) (bn (o40 P) (bn (o81 P) (bn (o153 P) (bn (o285 P) bz bz) (bn (o421 P) bz bz)) (bn (o219 P) (bn (o351 P) bz bz) (bn (o491 P) bz bz))) (bn (o119 P) (bn (o185 P) (bn (o317 P) bz bz) (bn (o456 P) bz bz)) (bn (o253 P) (bn (o386 P) bz bz) (bn (o526 P) bz bz)))) (bn (o62 P) (bn (o100 P) (bn (o169 P) (bn (o301 P) bz bz) (bn (o437 P) bz bz)) (bn (o235 P) (bn (o367 P) bz bz) (bn (o510 P) bz bz))) (bn (o135 P) (bn (o201 P) (bn (o333 P) bz bz) (bn (o472 P) bz bz)) (bn (o269 P) (bn (o402 P) bz bz) (bn (o545 P) bz bz)))))))))
theorem pc17 : Hd.Pc pp env T16 499 823 T17 525 857 293 [tp 34] ⟨220, 0, 227, 56⟩ ⟨228, 0, 235, 56⟩ := by
  intro w
  kernel_rfl
def o560 (P : Params) : Obj := ⟨.type "dict",none,.dict #[en P "__name__" 165 (.str "law_roomward_k32_whole_rules_keep" 900),en P "__doc__" 166 .none,en P "__package__" 167 .none,en P "__loader__" 168 (.builtin "__main__.__loader__#opaque"),en P "__spec__" 169 .none,en P "__annotations__" 170 (.ref 6),en P "__builtins__" 171 (.ref 4),en P "__file__" 173 (.str "/claim/cut.py" 172),en P "__cached__" 174 .none,en P "_wall" 193 (.ref 21),en P "WardError" 213 (.ref 31),en P "NoName" 229 (.ref 44),en P "NoDeed" 245 (.ref 56),en P "NoRoom" 261 (.ref 68),en P "TwiceTold" 277 (.ref 80),en P "TooMany" 293 (.ref 92),en P "NoRule" 309 (.ref 104),en P "LETTERS" 313 (.str "abcdefghijklmnopqrstuvwxyz" 312),en P "FIGURES" 315 (.str "0123456789" 314),en P "MOST_SIGNS" 317 (.int 8 316),en P "MOST_DEEDS" 319 (.int 12 318),en P "is_name" 325 (.ref 111),en P "refuse_names" 334 (.ref 118),en P "weights_of" 344 (.ref 125),en P "marks_of" 353 (.ref 132),en P "Deeds" 440 (.ref 199),en P "MOST_ROOMS" 444 (.int 60 443),en P "named_rooms" 457 (.ref 210),en P "refuse_rooms" 465 (.ref 217),en P "leads_of" 477 (.ref 224),en P "Machine" 595 (.ref 317),en P "MOST_TIMES" 599 (.int 6 598),en P "is_times" 606 (.ref 328),en P "Rule" 640 (.ref 352),en P "Never" 680 (.ref 387),en P "Most" 720 (.ref 418),en P "OfTwo" 754 (.ref 444),en P "Ahead" 788 (.ref 470),en P "Turns" 822 (.ref 496),en P "Hold" 856 (.ref 522),en P "Answer" 890 (.ref 548),en P "keeps" 899 (.ref 557),en P "_law_mixed" 910 (.ref 564),en P "_law_cell_at" 918 (.ref 571)] 44,#[]⟩
def o561 (P : Params) : Obj := ⟨.none,none,.fields #[.int 1 0,.int 0 0,.ref 20,.int 5 0,.int 0 0,.ref 27,.int 7 0,.int 0 0,.ref 40,.int 9 0,.int 0 0,.ref 52,.int 11 0,.int 0 0,.ref 64,.int 13 0,.int 0 0,.ref 76,.int 15 0,.int 0 0,.ref 88,.int 17 0,.int 0 0,.ref 100,.int 24 0,.int 0 0,.ref 110,.int 29 0,.int 0 0,.ref 117,.int 39 0,.int 0 0,.ref 124,.int 46 0,.int 0 0,.ref 131,.int 51 0,.int 0 0,.ref 138,.int 84 0,.int 0 0,.ref 209,.int 91 0,.int 0 0,.ref 216,.int 95 0,.int 0 0,.ref 223,.int 104 0,.int 0 0,.ref 230,.int 168 0,.int 0 0,.ref 327,.int 170 0,.int 0 0,.ref 334,.int 177 0,.int 0 0,.ref 362,.int 187 0,.int 0 0,.ref 395,.int 202 0,.int 0 0,.ref 426,.int 212 0,.int 0 0,.ref 452,.int 220 0,.int 0 0,.ref 478,.int 228 0,.int 0 0,.ref 504,.int 236 0,.int 0 0,.ref 530,.int 244 0,.int 0 0,.ref 556,.int 247 0,.int 0 0,.ref 563,.int 250 0,.int 0 0,.ref 570],#[]⟩
def o562 (P : Params) : Obj := ⟨.type "type",none,.cls ⟨"OfTwo",[.ref 352],[.ref 444,.ref 352,.type "object"],443,"OfTwo",true,[],[.ref 470,.ref 496,.ref 522,.ref 548],false,none,false⟩,#[(some (.ref 421)),none,(some (.str "OfTwo" 721)),(some (.str "OfTwo" 729)),(some (.builtin "object.__new__")),(some (.bool true))]⟩
def o563 (P : Params) : Obj := ⟨.type "tuple",none,.seq #[.ref 444] 0,#[]⟩
def o564 (P : Params) : Obj := ⟨.type "builtin_function_or_method",none,.fields #[.builtin "type.__prepare__",.type "type"],#[]⟩
def o565 (P : Params) : Obj := ⟨.type "dict",none,.dict #[en P "__module__" 864 (.str "roomward.rules" 596),en P "__qualname__" 866 (.str "Answer" 865),en P "__firstlineno__" 868 (.int 236 867),en P "__init__" 877 (.ref 538),en P "machine" 886 (.ref 545),en P "__static_attributes__" 887 (.ref 546)] 6,#[]⟩
def o566 (P : Params) : Obj := ⟨.type "tuple",none,.seq #[] 0,#[]⟩
def o567 (P : Params) : Obj := ⟨.none,none,.fields #[.int 238 0,.int 4 0,.ref 537,.int 241 0,.int 4 0,.ref 544],#[]⟩
def o568 (P : Params) : Obj := ⟨.type "code",none,.fields #[.str "Answer" 859,.str "Answer" 860,.str "/claim/cut.py" 861,.int 236 0,.int 0 0,.int 0 0,.int 0 0,.int 0 0,.ref 528,.bool false,.int 181 0,.ref 529,.none,.none,.none,.none,.int 862 0,.int 236 0,.str "/claim/cut.py" 863],#[]⟩
def o569 (P : Params) : Obj := ⟨.type "frame",none,.plain,#[(some (.ref 530)),(some (.ref 3)),(some (.ref 527)),none,(some (.str "roomward.rules" 596)),none,(some (.ref 0))]⟩
def o570 (P : Params) : Obj := ⟨.type "tuple",none,.seq #[] 0,#[]⟩
def o571 (P : Params) : Obj := ⟨.none,none,.fields #[],#[]⟩
def o572 (P : Params) : Obj := ⟨.type "tuple",none,.seq #[.str "self" 872,.str "deed" 873,.str "other" 874] 0,#[]⟩
def o573 (P : Params) : Obj := ⟨.type "tuple",none,.seq #[] 0,#[]⟩
def o574 (P : Params) : Obj := ⟨.none,none,.func ⟨"__init__","Answer.__init__",defArgs (inClass (tp 35) 0),.stmts (defBody (inClass (tp 35) 0)),defScope (inClass (tp 35) 0),0,[],.none,.none,.none,.none,none,.none,.none,0⟩,#[]⟩
def o575 (P : Params) : Obj := ⟨.type "code",none,.fields #[.str "__init__" 869,.str "Answer.__init__" 870,.str "/claim/cut.py" 871,.int 238 0,.int 3 0,.int 0 0,.int 0 0,.int 3 0,.ref 532,.bool true,.int 181 0,.ref 533,.none,.ref 534,.ref 535,.ref 536,.int 875 0,.int 238 0,.str "/claim/cut.py" 876],#[]⟩
def o576 (P : Params) : Obj := ⟨.type "function",none,.func ⟨"__init__","Answer.__init__",defArgs (inClass (tp 35) 0),.stmts (defBody (inClass (tp 35) 0)),defScope (inClass (tp 35) 0),3,[],.none,.none,.none,.str "roomward.rules" 596,none,.ref 537,.none,0⟩,#[]⟩
def o577 (P : Params) : Obj := ⟨.type "tuple",none,.seq #[] 0,#[]⟩
def o578 (P : Params) : Obj := ⟨.none,none,.fields #[],#[]⟩
def o579 (P : Params) : Obj := ⟨.type "tuple",none,.seq #[.str "self" 881,.str "deeds" 882,.str "doors" 883] 0,#[]⟩
def o580 (P : Params) : Obj := ⟨.type "tuple",none,.seq #[] 0,#[]⟩
def o581 (P : Params) : Obj := ⟨.none,none,.func ⟨"machine","Answer.machine",defArgs (inClass (tp 35) 1),.stmts (defBody (inClass (tp 35) 1)),defScope (inClass (tp 35) 1),0,[],.none,.none,.none,.none,none,.none,.none,0⟩,#[]⟩
def o582 (P : Params) : Obj := ⟨.type "code",none,.fields #[.str "machine" 878,.str "Answer.machine" 879,.str "/claim/cut.py" 880,.int 241 0,.int 2 0,.int 0 0,.int 0 0,.int 3 0,.ref 539,.bool true,.int 181 0,.ref 540,.none,.ref 541,.ref 542,.ref 543,.int 884 0,.int 241 0,.str "/claim/cut.py" 885],#[]⟩
def o583 (P : Params) : Obj := ⟨.type "function",none,.func ⟨"machine","Answer.machine",defArgs (inClass (tp 35) 1),.stmts (defBody (inClass (tp 35) 1)),defScope (inClass (tp 35) 1),3,[],.none,.none,.none,.str "roomward.rules" 596,none,.ref 544,.none,0⟩,#[]⟩
def o584 (P : Params) : Obj := ⟨.type "tuple",none,.seq #[] 0,#[]⟩
def o585 (P : Params) : Obj := ⟨.type "dict",none,.dict #[en P "__module__" 864 (.str "roomward.rules" 596),en P "__firstlineno__" 868 (.int 236 867),en P "__init__" 877 (.ref 538),en P "machine" 886 (.ref 545),en P "__static_attributes__" 887 (.ref 546),en P "__doc__" 888 .none] 2,#[]⟩
def o586 (P : Params) : Obj := ⟨.type "type",none,.cls ⟨"Answer",[.ref 444],[.ref 548,.ref 444,.ref 352,.type "object"],547,"Answer",true,[],[],false,none,false⟩,#[(some (.ref 525)),none,(some (.str "Answer" 857)),(some (.str "Answer" 865)),(some (.builtin "object.__new__")),(some (.bool true))]⟩
def o587 (P : Params) : Obj := ⟨.type "super",none,.fields #[.ref 548,.ref 548,.ref 548],#[]⟩
def o588 (P : Params) : Obj := ⟨.type "builtin_function_or_method",none,.fields #[.builtin "object.__init_subclass__",.ref 548],#[]⟩
def o589 (P : Params) : Obj := ⟨.type "tuple",none,.seq #[] 0,#[]⟩
def o590 (P : Params) : Obj := ⟨.none,none,.fields #[],#[]⟩
def o591 (P : Params) : Obj := ⟨.type "tuple",none,.seq #[.str "rule" 894,.str "deeds" 895,.str "row" 896] 0,#[]⟩
def o592 (P : Params) : Obj := ⟨.type "tuple",none,.seq #[] 0,#[]⟩
def o593 (P : Params) : Obj := ⟨.none,none,.func ⟨"keeps","keeps",defArgs (tp 36),.stmts (defBody (tp 36)),defScope (tp 36),0,[],.none,.none,.none,.none,none,.none,.none,0⟩,#[]⟩
def o594 (P : Params) : Obj := ⟨.type "code",none,.fields #[.str "keeps" 891,.str "keeps" 892,.str "/claim/cut.py" 893,.int 244 0,.int 3 0,.int 0 0,.int 0 0,.int 3 0,.ref 551,.bool true,.int 181 0,.ref 552,.none,.ref 553,.ref 554,.ref 555,.int 897 0,.int 244 0,.str "/claim/cut.py" 898],#[]⟩
def o595 (P : Params) : Obj := ⟨.type "function",none,.func ⟨"keeps","keeps",defArgs (tp 36),.stmts (defBody (tp 36)),defScope (tp 36),3,[],.none,.none,.none,.str "roomward.rules" 596,none,.ref 556,.none,0⟩,#[]⟩
def o596 (P : Params) : Obj := ⟨.type "tuple",none,.seq #[] 0,#[]⟩
def o597 (P : Params) : Obj := ⟨.none,none,.fields #[],#[]⟩
def o598 (P : Params) : Obj := ⟨.type "tuple",none,.seq #[.str "_law_cell" 905,.str "_law_k" 906,.str "_law_one" 907] 0,#[]⟩
def o599 (P : Params) : Obj := ⟨.type "tuple",none,.seq #[] 0,#[]⟩
def o600 (P : Params) : Obj := ⟨.none,none,.func ⟨"_law_mixed","_law_mixed",defArgs (tp 38),.stmts (defBody (tp 38)),defScope (tp 38),0,[],.none,.none,.none,.none,none,.none,.none,0⟩,#[]⟩
def o601 (P : Params) : Obj := ⟨.type "code",none,.fields #[.str "_law_mixed" 902,.str "_law_mixed" 903,.str "/claim/cut.py" 904,.int 247 0,.int 2 0,.int 0 0,.int 0 0,.int 3 0,.ref 558,.bool true,.int 181 0,.ref 559,.none,.ref 560,.ref 561,.ref 562,.int 908 0,.int 247 0,.str "/claim/cut.py" 909],#[]⟩
def o602 (P : Params) : Obj := ⟨.type "function",none,.func ⟨"_law_mixed","_law_mixed",defArgs (tp 38),.stmts (defBody (tp 38)),defScope (tp 38),3,[],.none,.none,.none,.str "law_roomward_k32_whole_rules_keep" 900,none,.ref 563,.none,0⟩,#[]⟩
def o603 (P : Params) : Obj := ⟨.type "tuple",none,.seq #[] 0,#[]⟩
def o604 (P : Params) : Obj := ⟨.none,none,.fields #[],#[]⟩
def o605 (P : Params) : Obj := ⟨.type "tuple",none,.seq #[.str "_law_script" 914,.str "_law_k" 915] 0,#[]⟩
def o606 (P : Params) : Obj := ⟨.type "tuple",none,.seq #[] 0,#[]⟩
def o607 (P : Params) : Obj := ⟨.none,none,.func ⟨"_law_cell_at","_law_cell_at",defArgs (tp 39),.stmts (defBody (tp 39)),defScope (tp 39),0,[],.none,.none,.none,.none,none,.none,.none,0⟩,#[]⟩
def o608 (P : Params) : Obj := ⟨.type "code",none,.fields #[.str "_law_cell_at" 911,.str "_law_cell_at" 912,.str "/claim/cut.py" 913,.int 250 0,.int 2 0,.int 0 0,.int 0 0,.int 3 0,.ref 565,.bool true,.int 181 0,.ref 566,.none,.ref 567,.ref 568,.ref 569,.int 916 0,.int 250 0,.str "/claim/cut.py" 917],#[]⟩
def o609 (P : Params) : Obj := ⟨.type "function",none,.func ⟨"_law_cell_at","_law_cell_at",defArgs (tp 39),.stmts (defBody (tp 39)),defScope (tp 39),3,[],.none,.none,.none,.str "law_roomward_k32_whole_rules_keep" 900,none,.ref 570,.none,0⟩,#[]⟩
noncomputable def T18 (P : Params) : BT := (bn (boot_o_0 P) (bn (boot_o_1 P) (bn (o560 P) (bn (boot_o_7 P) (bn (o6 P) (bn (o103 P) (bn (o63 P) (bn (o136 P) (bn (o270 P) (bn (o546 P) bz bz) bz) (bn (o403 P) bz bz)) (bn (o202 P) (bn (o334 P) bz bz) (bn (o476 P) bz bz))) (bn (o104 P) (bn (o170 P) (bn (o302 P) (bn (o581 P) bz bz) bz) (bn (o438 P) bz bz)) (bn (o236 P) (bn (o368 P) bz bz) (bn (o511 P) bz bz)))) (bn (o44 P) (bn (o82 P) (bn (o154 P) (bn (o286 P) (bn (o565 P) bz bz) bz) (bn (o422 P) bz bz)) (bn (o220 P) (bn (o352 P) bz bz) (bn (o492 P) bz bz))) (bn (o120 P) (bn (o186 P) (bn (o318 P) (bn (o597 P) bz bz) bz) (bn (o457 P) bz bz)) (bn (o254 P) (bn (o387 P) bz bz) (bn (o527 P) bz bz))))) (bn (o14 P) (bn (o33 P) (bn (o74 P) (bn (o146 P) (bn (o278 P) (bn (o554 P) bz bz) bz) (bn (o414 P) bz bz)) (bn (o210 P) (bn (o344 P) bz bz) (bn (o484 P) bz bz))) (bn (o112 P) (bn (o178 P) (bn (o310 P) (bn (o589 P) bz bz) bz) (bn (o449 P) bz bz)) (bn (o246 P) (bn (o379 P) bz bz) (bn (o519 P) bz bz)))) (bn (o52 P) (bn (o93 P) (bn (o162 P) (bn (o294 P) (bn (o573 P) bz bz) bz) (bn (o430 P) bz bz)) (bn (o228 P) (bn (o360 P) bz bz) (bn (o500 P) bz bz))) (bn (o128 P) (bn (o194 P) (bn (o326 P) (bn (o605 P) bz bz) bz) (bn (o465 P) bz bz)) (bn (o262 P) (bn (o395 P) bz bz) (bn (o538 P) bz bz)))))) (bn (o0 P) (bn (o10 P) (bn (o29 P) (bn (o67 P) (bn (o140 P) (bn (o274 P) (bn (o550 P) bz bz) bz) (bn (o407 P) bz bz)) (bn (o206 P) (bn (o340 P) bz bz) (bn (o480 P) bz bz))) (bn (o108 P) (bn (o174 P) (bn (o306 P) (bn (o585 P) bz bz) bz) (bn (o442 P) bz bz)) (bn (o242 P) (bn (o372 P) bz bz) (bn (o515 P) bz bz)))) (bn (o48 P) (bn (o89 P) (bn (o158 P) (bn (o290 P) (bn (o569 P) bz bz) bz) (bn (o426 P) bz bz)) (bn (o224 P) (bn (o356 P) bz bz) (bn (o496 P) bz bz))) (bn (o124 P) (bn (o190 P) (bn (o322 P) (bn (o601 P) bz bz) bz) (bn (o461 P) bz bz)) (bn (o258 P) (bn (o391 P) bz bz) (bn (o534 P) bz bz))))) (bn (o18 P) (bn (o37 P) (bn (o78 P) (bn (o150 P) (bn (o282 P) (bn (o558 P) bz bz) bz) (bn (o418 P) bz bz)) (bn (o214 P) (bn (o348 P) bz bz) (bn (o488 P) bz bz))) (bn (o116 P) (bn (o182 P) (bn (o314 P) (bn (o593 P) bz bz) bz) (bn (o453 P) bz bz)) (bn (o250 P) (bn (o383 P) bz bz) (bn (o523 P) bz bz)))) (bn (o59 P) (bn (o97 P) (bn (o166 P) (bn (o298 P) (bn (o577 P) bz bz) bz) (bn (o434 P) bz bz)) (bn (o232 P) (bn (o364 P) bz bz) (bn (o507 P) bz bz))) (bn (o132 P) (bn (o198 P) (bn (o330 P) (bn (o609 P) bz bz) bz) (bn (o469 P) bz bz)) (bn (o266 P) (bn (o399 P) bz bz) (bn (o542 P) bz bz))))))) (bn (boot_o_5 P) (bn (boot_o_9 P) (bn (o8 P) (bn (o24 P) (bn (o65 P) (bn (o138 P) (bn (o272 P) (bn (o548 P) bz bz) bz) (bn (o405 P) bz bz)) (bn (o204 P) (bn (o336 P) bz bz) (bn (o478 P) bz bz))) (bn (o106 P) (bn (o172 P) (bn (o304 P) (bn (o583 P) bz bz) bz) (bn (o440 P) bz bz)) (bn (o240 P) (bn (o370 P) bz bz) (bn (o513 P) bz bz)))) (bn (o46 P) (bn (o84 P) (bn (o156 P) (bn (o288 P) (bn (o567 P) bz bz) bz) (bn (o424 P) bz bz)) (bn (o222 P) (bn (o354 P) bz bz) (bn (o494 P) bz bz))) (bn (o122 P) (bn (o188 P) (bn (o320 P) (bn (o599 P) bz bz) bz) (bn (o459 P) bz bz)) (bn (o256 P) (bn (o389 P) bz bz) (bn (o529 P) bz bz))))) (bn (o16 P) (bn (o35 P) (bn (o76 P) (bn (o148 P) (bn (o280 P) (bn (o556 P) bz bz) bz) (bn (o416 P) bz bz)) (bn (o212 P) (bn (o346 P) bz bz) (bn (o486 P) bz bz))) (bn (o114 P) (bn (o180 P) (bn (o312 P) (bn (o591 P) bz bz) bz) (bn (o451 P) bz bz)) (bn (o248 P) (bn (o381 P) bz bz) (bn (o521 P) bz bz)))) (bn (o54 P) (bn (o95 P) (bn (o164 P) (bn (o296 P) (bn (o575 P) bz bz) bz) (bn (o432 P) bz bz)) (bn (o230 P) (bn (o362 P) bz bz) (bn (o505 P) bz bz))) (bn (o130 P) (bn (o196 P) (bn (o328 P) (bn (o607 P) bz bz) bz) (bn (o467 P) bz bz)) (bn (o264 P) (bn (o397 P) bz bz) (bn (o540 P) bz bz)))))) (bn (o2 P) (bn (o12 P) (bn (o31 P) (bn (o69 P) (bn (o144 P) (bn (o276 P) (bn (o552 P) bz bz) bz) (bn (o409 P) bz bz)) (bn (o208 P) (bn (o342 P) bz bz) (bn (o482 P) bz bz))) (bn (o110 P) (bn (o176 P) (bn (o308 P) (bn (o587 P) bz bz) bz) (bn (o447 P) bz bz)) (bn (o244 P) (bn (o377 P) bz bz) (bn (o517 P) bz bz)))) (bn (o50 P) (bn (o91 P) (bn (o160 P) (bn (o292 P) (bn (o571 P) bz bz) bz) (bn (o428 P) bz bz)) (bn (o226 P) (bn (o358 P) bz bz) (bn (o498 P) bz bz))) (bn (o126 P) (bn (o192 P) (bn (o324 P) (bn (o603 P) bz bz) bz) (bn (o463 P) bz bz)) (bn (o260 P) (bn (o393 P) bz bz) (bn (o536 P) bz bz))))) (bn (o20 P) (bn (o39 P) (bn (o80 P) (bn (o152 P) (bn (o284 P) (bn (o563 P) bz bz) bz) (bn (o420 P) bz bz)) (bn (o218 P) (bn (o350 P) bz bz) (bn (o490 P) bz bz))) (bn (o118 P) (bn (o184 P) (bn (o316 P) (bn (o595 P) bz bz) bz) (bn (o455 P) bz bz)) (bn (o252 P) (bn (o385 P) bz bz) (bn (o525 P) bz bz)))) (bn (o61 P) (bn (o99 P) (bn (o168 P) (bn (o300 P) (bn (o579 P) bz bz) bz) (bn (o436 P) bz bz)) (bn (o234 P) (bn (o366 P) bz bz) (bn (o509 P) bz bz))) (bn (o134 P) (bn (o200 P) (bn (o332 P) bz bz) (bn (o471 P) bz bz)) (bn (o268 P) (bn (o401 P) bz bz) (bn (o544 P) bz bz)))))))) (bn (boot_o_2 P) (bn (boot_o_4 P) (bn (boot_o_8 P) (bn (o7 P) (bn (o23 P) (bn (o64 P) (bn (o137 P) (bn (o271 P) (bn (o547 P) bz bz) bz) (bn (o404 P) bz bz)) (bn (o203 P) (bn (o335 P) bz bz) (bn (o477 P) bz bz))) (bn (o105 P) (bn (o171 P) (bn (o303 P) (bn (o582 P) bz bz) bz) (bn (o439 P) bz bz)) (bn (o237 P) (bn (o446 P) bz bz) (bn (o512 P) bz bz)))) (bn (o45 P) (bn (o83 P) (bn (o155 P) (bn (o287 P) (bn (o566 P) bz bz) bz) (bn (o423 P) bz bz)) (bn (o221 P) (bn (o353 P) bz bz) (bn (o493 P) bz bz))) (bn (o121 P) (bn (o187 P) (bn (o319 P) (bn (o598 P) bz bz) bz) (bn (o458 P) bz bz)) (bn (o255 P) (bn (o388 P) bz bz) (bn (o528 P) bz bz))))) (bn (o15 P) (bn (o34 P) (bn (o75 P) (bn (o147 P) (bn (o279 P) (bn (o555 P) bz bz) bz) (bn (o415 P) bz bz)) (bn (o211 P) (bn (o345 P) bz bz) (bn (o485 P) bz bz))) (bn (o113 P) (bn (o179 P) (bn (o311 P) (bn (o590 P) bz bz) bz) (bn (o450 P) bz bz)) (bn (o247 P) (bn (o380 P) bz bz) (bn (o520 P) bz bz)))) (bn (o53 P) (bn (o94 P) (bn (o163 P) (bn (o295 P) (bn (o574 P) bz bz) bz) (bn (o431 P) bz bz)) (bn (o229 P) (bn (o361 P) bz bz) (bn (o501 P) bz bz))) (bn (o129 P) (bn (o195 P) (bn (o327 P) (bn (o606 P) bz bz) bz) (bn (o466 P) bz bz)) (bn (o263 P) (bn (o396 P) bz bz) (bn (o539 P) bz bz)))))) (bn (o561 P) (bn (o11 P) (bn (o30 P) (bn (o68 P) (bn (o141 P) (bn (o275 P) (bn (o551 P) bz bz) bz) (bn (o408 P) bz bz)) (bn (o207 P) (bn (o341 P) bz bz) (bn (o481 P) bz bz))) (bn (o109 P) (bn (o175 P) (bn (o307 P) (bn (o586 P) bz bz) bz) (bn (o443 P) bz bz)) (bn (o243 P) (bn (o373 P) bz bz) (bn (o516 P) bz bz)))) (bn (o49 P) (bn (o90 P) (bn (o159 P) (bn (o291 P) (bn (o570 P) bz bz) bz) (bn (o427 P) bz bz)) (bn (o225 P) (bn (o357 P) bz bz) (bn (o497 P) bz bz))) (bn (o125 P) (bn (o191 P) (bn (o323 P) (bn (o602 P) bz bz) bz) (bn (o462 P) bz bz)) (bn (o259 P) (bn (o392 P) bz bz) (bn (o535 P) bz bz))))) (bn (o19 P) (bn (o38 P) (bn (o79 P) (bn (o151 P) (bn (o283 P) (bn (o559 P) bz bz) bz) (bn (o419 P) bz bz)) (bn (o217 P) (bn (o349 P) bz bz) (bn (o489 P) bz bz))) (bn (o117 P) (bn (o183 P) (bn (o315 P) (bn (o594 P) bz bz) bz) (bn (o454 P) bz bz)) (bn (o251 P) (bn (o384 P) bz bz) (bn (o524 P) bz bz)))) (bn (o60 P) (bn (o98 P) (bn (o167 P) (bn (o299 P) (bn (o578 P) bz bz) bz) (bn (o435 P) bz bz)) (bn (o233 P) (bn (o365 P) bz bz) (bn (o508 P) bz bz))) (bn (o133 P) (bn (o199 P) (bn (o331 P) bz bz) (bn (o562 P) bz bz)) (bn (o267 P) (bn (o400 P) bz bz) (bn (o543 P) bz bz))))))) (bn (boot_o_6 P) (bn (boot_o_10 P) (bn (o9 P) (bn (o25 P) (bn (o66 P) (bn (o139 P) (bn (o273 P) (bn (o549 P) bz bz) bz) (bn (o406 P) bz bz)) (bn (o205 P) (bn (o339 P) bz bz) (bn (o479 P) bz bz))) (bn (o107 P) (bn (o173 P) (bn (o305 P) (bn (o584 P) bz bz) bz) (bn (o441 P) bz bz)) (bn (o241 P) (bn (o371 P) bz bz) (bn (o514 P) bz bz)))) (bn (o47 P) (bn (o85 P) (bn (o157 P) (bn (o289 P) (bn (o568 P) bz bz) bz) (bn (o425 P) bz bz)) (bn (o223 P) (bn (o355 P) bz bz) (bn (o495 P) bz bz))) (bn (o123 P) (bn (o189 P) (bn (o321 P) (bn (o600 P) bz bz) bz) (bn (o460 P) bz bz)) (bn (o257 P) (bn (o390 P) bz bz) (bn (o530 P) bz bz))))) (bn (o17 P) (bn (o36 P) (bn (o77 P) (bn (o149 P) (bn (o281 P) (bn (o557 P) bz bz) bz) (bn (o417 P) bz bz)) (bn (o213 P) (bn (o347 P) bz bz) (bn (o487 P) bz bz))) (bn (o115 P) (bn (o181 P) (bn (o313 P) (bn (o592 P) bz bz) bz) (bn (o452 P) bz bz)) (bn (o249 P) (bn (o382 P) bz bz) (bn (o522 P) bz bz)))) (bn (o55 P) (bn (o96 P) (bn (o165 P) (bn (o297 P) (bn (o576 P) bz bz) bz) (bn (o433 P) bz bz)) (bn (o231 P) (bn (o363 P) bz bz) (bn (o506 P) bz bz))) (bn (o131 P) (bn (o197 P) (bn (o329 P) (bn (o608 P) bz bz) bz) (bn (o468 P) bz bz)) (bn (o265 P) (bn (o398 P) bz bz) (bn (o541 P) bz bz)))))) (bn (o3 P) (bn (o13 P) (bn (o32 P) (bn (o70 P) (bn (o145 P) (bn (o277 P) (bn (o553 P) bz bz) bz) (bn (o413 P) bz bz)) (bn (o209 P) (bn (o343 P) bz bz) (bn (o483 P) bz bz))) (bn (o111 P) (bn (o177 P) (bn (o309 P) (bn (o588 P) bz bz) bz) (bn (o448 P) bz bz)) (bn (o245 P) (bn (o378 P) bz bz) (bn (o518 P) bz bz)))) (bn (o51 P) (bn (o92 P) (bn (o161 P) (bn (o293 P) (bn (o572 P) bz bz) bz) (bn (o429 P) bz bz)) (bn (o227 P) (bn (o359 P) bz bz) (bn (o499 P) bz bz))) (bn (o127 P) (bn (o193 P) (bn (o325 P) (bn (o604 P) bz bz) bz) (bn (o464 P) bz bz)) (bn (o261 P) (bn (o394 P) bz bz) (bn (o537 P) bz bz))))) (bn (o21 P) (bn (o40 P) (bn (o81 P) (bn (o153 P) (bn (o285 P) (bn (o564 P) bz bz) bz) (bn (o421 P) bz bz)) (bn (o219 P) (bn (o351 P) bz bz) (bn (o491 P) bz bz))) (bn (o119 P) (bn (o185 P) (bn (o317 P) (bn (o596 P) bz bz) bz) (bn (o456 P) bz bz)) (bn (o253 P) (bn (o386 P) bz bz) (bn (o526 P) bz bz)))) (bn (o62 P) (bn (o100 P) (bn (o169 P) (bn (o301 P) (bn (o580 P) bz bz) bz) (bn (o437 P) bz bz)) (bn (o235 P) (bn (o367 P) bz bz) (bn (o510 P) bz bz))) (bn (o135 P) (bn (o201 P) (bn (o333 P) bz bz) (bn (o472 P) bz bz)) (bn (o269 P) (bn (o402 P) bz bz) (bn (o545 P) bz bz)))))))))
theorem pc18 : Hd.Pc pp env T17 525 857 T18 572 919 394 [tp 35, tp 36, tp 37, tp 38, tp 39] ⟨228, 0, 235, 56⟩ ⟨250, 0, 253, 12⟩ := by
  intro w
  kernel_rfl
def o610 (P : Params) : Obj := ⟨.type "dict",none,.dict #[en P "__name__" 165 (.str "law_roomward_k32_whole_rules_keep" 900),en P "__doc__" 166 .none,en P "__package__" 167 .none,en P "__loader__" 168 (.builtin "__main__.__loader__#opaque"),en P "__spec__" 169 .none,en P "__annotations__" 170 (.ref 6),en P "__builtins__" 171 (.ref 4),en P "__file__" 173 (.str "/claim/cut.py" 172),en P "__cached__" 174 .none,en P "_wall" 193 (.ref 21),en P "WardError" 213 (.ref 31),en P "NoName" 229 (.ref 44),en P "NoDeed" 245 (.ref 56),en P "NoRoom" 261 (.ref 68),en P "TwiceTold" 277 (.ref 80),en P "TooMany" 293 (.ref 92),en P "NoRule" 309 (.ref 104),en P "LETTERS" 313 (.str "abcdefghijklmnopqrstuvwxyz" 312),en P "FIGURES" 315 (.str "0123456789" 314),en P "MOST_SIGNS" 317 (.int 8 316),en P "MOST_DEEDS" 319 (.int 12 318),en P "is_name" 325 (.ref 111),en P "refuse_names" 334 (.ref 118),en P "weights_of" 344 (.ref 125),en P "marks_of" 353 (.ref 132),en P "Deeds" 440 (.ref 199),en P "MOST_ROOMS" 444 (.int 60 443),en P "named_rooms" 457 (.ref 210),en P "refuse_rooms" 465 (.ref 217),en P "leads_of" 477 (.ref 224),en P "Machine" 595 (.ref 317),en P "MOST_TIMES" 599 (.int 6 598),en P "is_times" 606 (.ref 328),en P "Rule" 640 (.ref 352),en P "Never" 680 (.ref 387),en P "Most" 720 (.ref 418),en P "OfTwo" 754 (.ref 444),en P "Ahead" 788 (.ref 470),en P "Turns" 822 (.ref 496),en P "Hold" 856 (.ref 522),en P "Answer" 890 (.ref 548),en P "keeps" 899 (.ref 557),en P "_law_mixed" 910 (.ref 564),en P "_law_cell_at" 918 (.ref 571),en P "_law_names_by" 924 (.ref 576),en P "_law_deeds_by" 930 (.ref 581),en P "_law_rule_of" 937 (.ref 588),en P "_law_about" 944 (.ref 595),en P "_law_next" 955 (.ref 602),en P "_law_all_next" 961 (.ref 607),en P "_law_all_end" 967 (.ref 612),en P "_law_drawn" 978 (.ref 619),en P "_law_two_deeds" 987 (.ref 626),en P "_law_row" 993 (.ref 631),en P "_law_due" 1003 (.ref 638),en P "_law_some_row" 1012 (.ref 645),en P "law" 1018 (.ref 650)] 57,#[]⟩
def o611 (P : Params) : Obj := ⟨.none,none,.fields #[.int 1 0,.int 0 0,.ref 20,.int 5 0,.int 0 0,.ref 27,.int 7 0,.int 0 0,.ref 40,.int 9 0,.int 0 0,.ref 52,.int 11 0,.int 0 0,.ref 64,.int 13 0,.int 0 0,.ref 76,.int 15 0,.int 0 0,.ref 88,.int 17 0,.int 0 0,.ref 100,.int 24 0,.int 0 0,.ref 110,.int 29 0,.int 0 0,.ref 117,.int 39 0,.int 0 0,.ref 124,.int 46 0,.int 0 0,.ref 131,.int 51 0,.int 0 0,.ref 138,.int 84 0,.int 0 0,.ref 209,.int 91 0,.int 0 0,.ref 216,.int 95 0,.int 0 0,.ref 223,.int 104 0,.int 0 0,.ref 230,.int 168 0,.int 0 0,.ref 327,.int 170 0,.int 0 0,.ref 334,.int 177 0,.int 0 0,.ref 362,.int 187 0,.int 0 0,.ref 395,.int 202 0,.int 0 0,.ref 426,.int 212 0,.int 0 0,.ref 452,.int 220 0,.int 0 0,.ref 478,.int 228 0,.int 0 0,.ref 504,.int 236 0,.int 0 0,.ref 530,.int 244 0,.int 0 0,.ref 556,.int 247 0,.int 0 0,.ref 563,.int 250 0,.int 0 0,.ref 570,.int 254 0,.int 0 0,.ref 575,.int 258 0,.int 0 0,.ref 580,.int 264 0,.int 0 0,.ref 587,.int 276 0,.int 0 0,.ref 594,.int 280 0,.int 0 0,.ref 601,.int 295 0,.int 0 0,.ref 606,.int 298 0,.int 0 0,.ref 611,.int 300 0,.int 0 0,.ref 618,.int 309 0,.int 0 0,.ref 625,.int 314 0,.int 0 0,.ref 630,.int 316 0,.int 0 0,.ref 637,.int 323 0,.int 0 0,.ref 644,.int 329 0,.int 0 0,.ref 649],#[]⟩
def o612 (P : Params) : Obj := ⟨.type "tuple",none,.seq #[] 0,#[]⟩
def o613 (P : Params) : Obj := ⟨.none,none,.fields #[],#[]⟩
def o614 (P : Params) : Obj := ⟨.none,none,.func ⟨"_law_names_by","_law_names_by",defArgs (tp 40),.stmts (defBody (tp 40)),defScope (tp 40),0,[],.none,.none,.none,.none,none,.none,.none,0⟩,#[]⟩
def o615 (P : Params) : Obj := ⟨.type "code",none,.fields #[.str "_law_names_by" 919,.str "_law_names_by" 920,.str "/claim/cut.py" 921,.int 254 0,.int 2 0,.int 0 0,.int 0 0,.int 3 0,.ref 572,.bool true,.int 181 0,.ref 573,.none,.none,.none,.ref 574,.int 922 0,.int 254 0,.str "/claim/cut.py" 923],#[]⟩
def o616 (P : Params) : Obj := ⟨.type "function",none,.func ⟨"_law_names_by","_law_names_by",defArgs (tp 40),.stmts (defBody (tp 40)),defScope (tp 40),3,[],.none,.none,.none,.str "law_roomward_k32_whole_rules_keep" 900,none,.ref 575,.none,0⟩,#[]⟩
def o617 (P : Params) : Obj := ⟨.type "tuple",none,.seq #[] 0,#[]⟩
def o618 (P : Params) : Obj := ⟨.none,none,.fields #[],#[]⟩
def o619 (P : Params) : Obj := ⟨.none,none,.func ⟨"_law_deeds_by","_law_deeds_by",defArgs (tp 41),.stmts (defBody (tp 41)),defScope (tp 41),0,[],.none,.none,.none,.none,none,.none,.none,0⟩,#[]⟩
def o620 (P : Params) : Obj := ⟨.type "code",none,.fields #[.str "_law_deeds_by" 925,.str "_law_deeds_by" 926,.str "/claim/cut.py" 927,.int 258 0,.int 1 0,.int 0 0,.int 0 0,.int 3 0,.ref 577,.bool true,.int 181 0,.ref 578,.none,.none,.none,.ref 579,.int 928 0,.int 258 0,.str "/claim/cut.py" 929],#[]⟩
def o621 (P : Params) : Obj := ⟨.type "function",none,.func ⟨"_law_deeds_by","_law_deeds_by",defArgs (tp 41),.stmts (defBody (tp 41)),defScope (tp 41),3,[],.none,.none,.none,.str "law_roomward_k32_whole_rules_keep" 900,none,.ref 580,.none,0⟩,#[]⟩
def o622 (P : Params) : Obj := ⟨.type "tuple",none,.seq #[] 0,#[]⟩
def o623 (P : Params) : Obj := ⟨.none,none,.fields #[],#[]⟩
def o624 (P : Params) : Obj := ⟨.type "tuple",none,.seq #[.str "_law_row_here" 934] 0,#[]⟩
def o625 (P : Params) : Obj := ⟨.type "tuple",none,.seq #[] 0,#[]⟩
def o626 (P : Params) : Obj := ⟨.none,none,.func ⟨"_law_rule_of","_law_rule_of",defArgs (tp 42),.stmts (defBody (tp 42)),defScope (tp 42),0,[],.none,.none,.none,.none,none,.none,.none,0⟩,#[]⟩
def o627 (P : Params) : Obj := ⟨.type "code",none,.fields #[.str "_law_rule_of" 931,.str "_law_rule_of" 932,.str "/claim/cut.py" 933,.int 264 0,.int 1 0,.int 0 0,.int 0 0,.int 3 0,.ref 582,.bool true,.int 181 0,.ref 583,.none,.ref 584,.ref 585,.ref 586,.int 935 0,.int 264 0,.str "/claim/cut.py" 936],#[]⟩
def o628 (P : Params) : Obj := ⟨.type "function",none,.func ⟨"_law_rule_of","_law_rule_of",defArgs (tp 42),.stmts (defBody (tp 42)),defScope (tp 42),3,[],.none,.none,.none,.str "law_roomward_k32_whole_rules_keep" 900,none,.ref 587,.none,0⟩,#[]⟩
def o629 (P : Params) : Obj := ⟨.type "tuple",none,.seq #[] 0,#[]⟩
def o630 (P : Params) : Obj := ⟨.none,none,.fields #[],#[]⟩
def o631 (P : Params) : Obj := ⟨.type "tuple",none,.seq #[.str "_law_rule" 941] 0,#[]⟩
def o632 (P : Params) : Obj := ⟨.type "tuple",none,.seq #[] 0,#[]⟩
def o633 (P : Params) : Obj := ⟨.none,none,.func ⟨"_law_about","_law_about",defArgs (tp 43),.stmts (defBody (tp 43)),defScope (tp 43),0,[],.none,.none,.none,.none,none,.none,.none,0⟩,#[]⟩
def o634 (P : Params) : Obj := ⟨.type "code",none,.fields #[.str "_law_about" 938,.str "_law_about" 939,.str "/claim/cut.py" 940,.int 276 0,.int 1 0,.int 0 0,.int 0 0,.int 3 0,.ref 589,.bool true,.int 181 0,.ref 590,.none,.ref 591,.ref 592,.ref 593,.int 942 0,.int 276 0,.str "/claim/cut.py" 943],#[]⟩
def o635 (P : Params) : Obj := ⟨.type "function",none,.func ⟨"_law_about","_law_about",defArgs (tp 43),.stmts (defBody (tp 43)),defScope (tp 43),3,[],.none,.none,.none,.str "law_roomward_k32_whole_rules_keep" 900,none,.ref 594,.none,0⟩,#[]⟩
def o636 (P : Params) : Obj := ⟨.type "tuple",none,.seq #[] 0,#[]⟩
def o637 (P : Params) : Obj := ⟨.none,none,.fields #[],#[]⟩
def o638 (P : Params) : Obj := ⟨.type "tuple",none,.seq #[.str "_law_rule" 948,.str "_law_state" 949,.str "_law_deed" 950,.str "_law_word" 951,.str "_law_one" 952] 0,#[]⟩
def o639 (P : Params) : Obj := ⟨.type "tuple",none,.seq #[] 0,#[]⟩
def o640 (P : Params) : Obj := ⟨.none,none,.func ⟨"_law_next","_law_next",defArgs (tp 44),.stmts (defBody (tp 44)),defScope (tp 44),0,[],.none,.none,.none,.none,none,.none,.none,0⟩,#[]⟩
def o641 (P : Params) : Obj := ⟨.type "code",none,.fields #[.str "_law_next" 945,.str "_law_next" 946,.str "/claim/cut.py" 947,.int 280 0,.int 3 0,.int 0 0,.int 0 0,.int 3 0,.ref 596,.bool true,.int 181 0,.ref 597,.none,.ref 598,.ref 599,.ref 600,.int 953 0,.int 280 0,.str "/claim/cut.py" 954],#[]⟩
def o642 (P : Params) : Obj := ⟨.type "function",none,.func ⟨"_law_next","_law_next",defArgs (tp 44),.stmts (defBody (tp 44)),defScope (tp 44),3,[],.none,.none,.none,.str "law_roomward_k32_whole_rules_keep" 900,none,.ref 601,.none,0⟩,#[]⟩
def o643 (P : Params) : Obj := ⟨.type "tuple",none,.seq #[] 0,#[]⟩
def o644 (P : Params) : Obj := ⟨.none,none,.fields #[],#[]⟩
def o645 (P : Params) : Obj := ⟨.none,none,.func ⟨"_law_all_next","_law_all_next",defArgs (tp 45),.stmts (defBody (tp 45)),defScope (tp 45),0,[],.none,.none,.none,.none,none,.none,.none,0⟩,#[]⟩
def o646 (P : Params) : Obj := ⟨.type "code",none,.fields #[.str "_law_all_next" 956,.str "_law_all_next" 957,.str "/claim/cut.py" 958,.int 295 0,.int 3 0,.int 0 0,.int 0 0,.int 3 0,.ref 603,.bool true,.int 181 0,.ref 604,.none,.none,.none,.ref 605,.int 959 0,.int 295 0,.str "/claim/cut.py" 960],#[]⟩
def o647 (P : Params) : Obj := ⟨.type "function",none,.func ⟨"_law_all_next","_law_all_next",defArgs (tp 45),.stmts (defBody (tp 45)),defScope (tp 45),3,[],.none,.none,.none,.str "law_roomward_k32_whole_rules_keep" 900,none,.ref 606,.none,0⟩,#[]⟩
def o648 (P : Params) : Obj := ⟨.type "tuple",none,.seq #[] 0,#[]⟩
def o649 (P : Params) : Obj := ⟨.none,none,.fields #[],#[]⟩
def o650 (P : Params) : Obj := ⟨.none,none,.func ⟨"_law_all_end","_law_all_end",defArgs (tp 46),.stmts (defBody (tp 46)),defScope (tp 46),0,[],.none,.none,.none,.none,none,.none,.none,0⟩,#[]⟩
def o651 (P : Params) : Obj := ⟨.type "code",none,.fields #[.str "_law_all_end" 962,.str "_law_all_end" 963,.str "/claim/cut.py" 964,.int 298 0,.int 2 0,.int 0 0,.int 0 0,.int 3 0,.ref 608,.bool true,.int 181 0,.ref 609,.none,.none,.none,.ref 610,.int 965 0,.int 298 0,.str "/claim/cut.py" 966],#[]⟩
def o652 (P : Params) : Obj := ⟨.type "function",none,.func ⟨"_law_all_end","_law_all_end",defArgs (tp 46),.stmts (defBody (tp 46)),defScope (tp 46),3,[],.none,.none,.none,.str "law_roomward_k32_whole_rules_keep" 900,none,.ref 611,.none,0⟩,#[]⟩
def o653 (P : Params) : Obj := ⟨.type "tuple",none,.seq #[] 0,#[]⟩
def o654 (P : Params) : Obj := ⟨.none,none,.fields #[],#[]⟩
def o655 (P : Params) : Obj := ⟨.type "tuple",none,.seq #[.str "_law_cell" 971,.str "_law_names" 972,.str "_law_word" 973,.str "_law_one" 974,.str "_law_other" 975] 0,#[]⟩
def o656 (P : Params) : Obj := ⟨.type "tuple",none,.seq #[] 0,#[]⟩
def o657 (P : Params) : Obj := ⟨.none,none,.func ⟨"_law_drawn","_law_drawn",defArgs (tp 47),.stmts (defBody (tp 47)),defScope (tp 47),0,[],.none,.none,.none,.none,none,.none,.none,0⟩,#[]⟩
def o658 (P : Params) : Obj := ⟨.type "code",none,.fields #[.str "_law_drawn" 968,.str "_law_drawn" 969,.str "/claim/cut.py" 970,.int 300 0,.int 2 0,.int 0 0,.int 0 0,.int 3 0,.ref 613,.bool true,.int 181 0,.ref 614,.none,.ref 615,.ref 616,.ref 617,.int 976 0,.int 300 0,.str "/claim/cut.py" 977],#[]⟩
def o659 (P : Params) : Obj := ⟨.type "function",none,.func ⟨"_law_drawn","_law_drawn",defArgs (tp 47),.stmts (defBody (tp 47)),defScope (tp 47),3,[],.none,.none,.none,.str "law_roomward_k32_whole_rules_keep" 900,none,.ref 618,.none,0⟩,#[]⟩
def o660 (P : Params) : Obj := ⟨.type "tuple",none,.seq #[] 0,#[]⟩
def o661 (P : Params) : Obj := ⟨.none,none,.fields #[],#[]⟩
def o662 (P : Params) : Obj := ⟨.type "tuple",none,.seq #[.str "_law_cell" 982,.str "_law_names" 983,.str "_law_free" 984] 0,#[]⟩
def o663 (P : Params) : Obj := ⟨.type "tuple",none,.seq #[] 0,#[]⟩
def o664 (P : Params) : Obj := ⟨.none,none,.func ⟨"_law_two_deeds","_law_two_deeds",defArgs (tp 48),.stmts (defBody (tp 48)),defScope (tp 48),0,[],.none,.none,.none,.none,none,.none,.none,0⟩,#[]⟩
def o665 (P : Params) : Obj := ⟨.type "code",none,.fields #[.str "_law_two_deeds" 979,.str "_law_two_deeds" 980,.str "/claim/cut.py" 981,.int 309 0,.int 1 0,.int 0 0,.int 0 0,.int 3 0,.ref 620,.bool true,.int 181 0,.ref 621,.none,.ref 622,.ref 623,.ref 624,.int 985 0,.int 309 0,.str "/claim/cut.py" 986],#[]⟩
def o666 (P : Params) : Obj := ⟨.type "function",none,.func ⟨"_law_two_deeds","_law_two_deeds",defArgs (tp 48),.stmts (defBody (tp 48)),defScope (tp 48),3,[],.none,.none,.none,.str "law_roomward_k32_whole_rules_keep" 900,none,.ref 625,.none,0⟩,#[]⟩
def o667 (P : Params) : Obj := ⟨.type "tuple",none,.seq #[] 0,#[]⟩
def o668 (P : Params) : Obj := ⟨.none,none,.fields #[],#[]⟩
def o669 (P : Params) : Obj := ⟨.none,none,.func ⟨"_law_row","_law_row",defArgs (tp 49),.stmts (defBody (tp 49)),defScope (tp 49),0,[],.none,.none,.none,.none,none,.none,.none,0⟩,#[]⟩
def o670 (P : Params) : Obj := ⟨.type "code",none,.fields #[.str "_law_row" 988,.str "_law_row" 989,.str "/claim/cut.py" 990,.int 314 0,.int 3 0,.int 0 0,.int 0 0,.int 3 0,.ref 627,.bool true,.int 181 0,.ref 628,.none,.none,.none,.ref 629,.int 991 0,.int 314 0,.str "/claim/cut.py" 992],#[]⟩
def o671 (P : Params) : Obj := ⟨.type "function",none,.func ⟨"_law_row","_law_row",defArgs (tp 49),.stmts (defBody (tp 49)),defScope (tp 49),3,[],.none,.none,.none,.str "law_roomward_k32_whole_rules_keep" 900,none,.ref 630,.none,0⟩,#[]⟩
def o672 (P : Params) : Obj := ⟨.type "tuple",none,.seq #[] 0,#[]⟩
def o673 (P : Params) : Obj := ⟨.none,none,.fields #[],#[]⟩
def o674 (P : Params) : Obj := ⟨.type "tuple",none,.seq #[.str "_law_words" 997,.str "_law_row_here" 998,.str "_law_state" 999,.str "_law_deed" 1000] 0,#[]⟩
def o675 (P : Params) : Obj := ⟨.type "tuple",none,.seq #[] 0,#[]⟩
def o676 (P : Params) : Obj := ⟨.none,none,.func ⟨"_law_due","_law_due",defArgs (tp 50),.stmts (defBody (tp 50)),defScope (tp 50),0,[],.none,.none,.none,.none,none,.none,.none,0⟩,#[]⟩
def o677 (P : Params) : Obj := ⟨.type "code",none,.fields #[.str "_law_due" 994,.str "_law_due" 995,.str "/claim/cut.py" 996,.int 316 0,.int 2 0,.int 0 0,.int 0 0,.int 3 0,.ref 632,.bool true,.int 181 0,.ref 633,.none,.ref 634,.ref 635,.ref 636,.int 1001 0,.int 316 0,.str "/claim/cut.py" 1002],#[]⟩
def o678 (P : Params) : Obj := ⟨.type "function",none,.func ⟨"_law_due","_law_due",defArgs (tp 50),.stmts (defBody (tp 50)),defScope (tp 50),3,[],.none,.none,.none,.str "law_roomward_k32_whole_rules_keep" 900,none,.ref 637,.none,0⟩,#[]⟩
def o679 (P : Params) : Obj := ⟨.type "tuple",none,.seq #[] 0,#[]⟩
def o680 (P : Params) : Obj := ⟨.none,none,.fields #[],#[]⟩
def o681 (P : Params) : Obj := ⟨.type "tuple",none,.seq #[.str "_law_cell" 1007,.str "_law_names" 1008,.str "_law_words" 1009] 0,#[]⟩
def o682 (P : Params) : Obj := ⟨.type "tuple",none,.seq #[] 0,#[]⟩
def o683 (P : Params) : Obj := ⟨.none,none,.func ⟨"_law_some_row","_law_some_row",defArgs (tp 51),.stmts (defBody (tp 51)),defScope (tp 51),0,[],.none,.none,.none,.none,none,.none,.none,0⟩,#[]⟩
def o684 (P : Params) : Obj := ⟨.type "code",none,.fields #[.str "_law_some_row" 1004,.str "_law_some_row" 1005,.str "/claim/cut.py" 1006,.int 323 0,.int 3 0,.int 0 0,.int 0 0,.int 3 0,.ref 639,.bool true,.int 181 0,.ref 640,.none,.ref 641,.ref 642,.ref 643,.int 1010 0,.int 323 0,.str "/claim/cut.py" 1011],#[]⟩
def o685 (P : Params) : Obj := ⟨.type "function",none,.func ⟨"_law_some_row","_law_some_row",defArgs (tp 51),.stmts (defBody (tp 51)),defScope (tp 51),3,[],.none,.none,.none,.str "law_roomward_k32_whole_rules_keep" 900,none,.ref 644,.none,0⟩,#[]⟩
def o686 (P : Params) : Obj := ⟨.type "tuple",none,.seq #[] 0,#[]⟩
def o687 (P : Params) : Obj := ⟨.none,none,.fields #[],#[]⟩
def o688 (P : Params) : Obj := ⟨.none,none,.func ⟨"law","law",defArgs (tp 52),.stmts (defBody (tp 52)),defScope (tp 52),0,[],.none,.none,.none,.none,none,.none,.none,0⟩,#[]⟩
def o689 (P : Params) : Obj := ⟨.type "code",none,.fields #[.str "law" 1013,.str "law" 1014,.str "/claim/cut.py" 1015,.int 329 0,.int 1 0,.int 0 0,.int 0 0,.int 3 0,.ref 646,.bool true,.int 181 0,.ref 647,.none,.none,.none,.ref 648,.int 1016 0,.int 329 0,.str "/claim/cut.py" 1017],#[]⟩
def o690 (P : Params) : Obj := ⟨.type "function",none,.func ⟨"law","law",defArgs (tp 52),.stmts (defBody (tp 52)),defScope (tp 52),3,[],.none,.none,.none,.str "law_roomward_k32_whole_rules_keep" 900,none,.ref 649,.none,0⟩,#[]⟩
noncomputable def T19 (P : Params) : BT := (bn (boot_o_0 P) (bn (boot_o_1 P) (bn (o610 P) (bn (boot_o_7 P) (bn (o6 P) (bn (o103 P) (bn (o63 P) (bn (o136 P) (bn (o270 P) (bn (o546 P) bz bz) bz) (bn (o403 P) (bn (o679 P) bz bz) bz)) (bn (o202 P) (bn (o334 P) (bn (o615 P) bz bz) bz) (bn (o476 P) bz bz))) (bn (o104 P) (bn (o170 P) (bn (o302 P) (bn (o581 P) bz bz) bz) (bn (o438 P) bz bz)) (bn (o236 P) (bn (o368 P) (bn (o647 P) bz bz) bz) (bn (o511 P) bz bz)))) (bn (o44 P) (bn (o82 P) (bn (o154 P) (bn (o286 P) (bn (o565 P) bz bz) bz) (bn (o422 P) bz bz)) (bn (o220 P) (bn (o352 P) (bn (o631 P) bz bz) bz) (bn (o492 P) bz bz))) (bn (o120 P) (bn (o186 P) (bn (o318 P) (bn (o597 P) bz bz) bz) (bn (o457 P) bz bz)) (bn (o254 P) (bn (o387 P) (bn (o663 P) bz bz) bz) (bn (o527 P) bz bz))))) (bn (o14 P) (bn (o33 P) (bn (o74 P) (bn (o146 P) (bn (o278 P) (bn (o554 P) bz bz) bz) (bn (o414 P) (bn (o687 P) bz bz) bz)) (bn (o210 P) (bn (o344 P) (bn (o623 P) bz bz) bz) (bn (o484 P) bz bz))) (bn (o112 P) (bn (o178 P) (bn (o310 P) (bn (o589 P) bz bz) bz) (bn (o449 P) bz bz)) (bn (o246 P) (bn (o379 P) (bn (o655 P) bz bz) bz) (bn (o519 P) bz bz)))) (bn (o52 P) (bn (o93 P) (bn (o162 P) (bn (o294 P) (bn (o573 P) bz bz) bz) (bn (o430 P) bz bz)) (bn (o228 P) (bn (o360 P) (bn (o639 P) bz bz) bz) (bn (o500 P) bz bz))) (bn (o128 P) (bn (o194 P) (bn (o326 P) (bn (o605 P) bz bz) bz) (bn (o465 P) bz bz)) (bn (o262 P) (bn (o395 P) (bn (o671 P) bz bz) bz) (bn (o538 P) bz bz)))))) (bn (o0 P) (bn (o10 P) (bn (o29 P) (bn (o67 P) (bn (o140 P) (bn (o274 P) (bn (o550 P) bz bz) bz) (bn (o407 P) (bn (o683 P) bz bz) bz)) (bn (o206 P) (bn (o340 P) (bn (o619 P) bz bz) bz) (bn (o480 P) bz bz))) (bn (o108 P) (bn (o174 P) (bn (o306 P) (bn (o585 P) bz bz) bz) (bn (o442 P) bz bz)) (bn (o242 P) (bn (o372 P) (bn (o651 P) bz bz) bz) (bn (o515 P) bz bz)))) (bn (o48 P) (bn (o89 P) (bn (o158 P) (bn (o290 P) (bn (o569 P) bz bz) bz) (bn (o426 P) bz bz)) (bn (o224 P) (bn (o356 P) (bn (o635 P) bz bz) bz) (bn (o496 P) bz bz))) (bn (o124 P) (bn (o190 P) (bn (o322 P) (bn (o601 P) bz bz) bz) (bn (o461 P) bz bz)) (bn (o258 P) (bn (o391 P) (bn (o667 P) bz bz) bz) (bn (o534 P) bz bz))))) (bn (o18 P) (bn (o37 P) (bn (o78 P) (bn (o150 P) (bn (o282 P) (bn (o558 P) bz bz) bz) (bn (o418 P) bz bz)) (bn (o214 P) (bn (o348 P) (bn (o627 P) bz bz) bz) (bn (o488 P) bz bz))) (bn (o116 P) (bn (o182 P) (bn (o314 P) (bn (o593 P) bz bz) bz) (bn (o453 P) bz bz)) (bn (o250 P) (bn (o383 P) (bn (o659 P) bz bz) bz) (bn (o523 P) bz bz)))) (bn (o59 P) (bn (o97 P) (bn (o166 P) (bn (o298 P) (bn (o577 P) bz bz) bz) (bn (o434 P) bz bz)) (bn (o232 P) (bn (o364 P) (bn (o643 P) bz bz) bz) (bn (o507 P) bz bz))) (bn (o132 P) (bn (o198 P) (bn (o330 P) (bn (o609 P) bz bz) bz) (bn (o469 P) bz bz)) (bn (o266 P) (bn (o399 P) (bn (o675 P) bz bz) bz) (bn (o542 P) bz bz))))))) (bn (boot_o_5 P) (bn (boot_o_9 P) (bn (o8 P) (bn (o24 P) (bn (o65 P) (bn (o138 P) (bn (o272 P) (bn (o548 P) bz bz) bz) (bn (o405 P) (bn (o681 P) bz bz) bz)) (bn (o204 P) (bn (o336 P) (bn (o617 P) bz bz) bz) (bn (o478 P) bz bz))) (bn (o106 P) (bn (o172 P) (bn (o304 P) (bn (o583 P) bz bz) bz) (bn (o440 P) bz bz)) (bn (o240 P) (bn (o370 P) (bn (o649 P) bz bz) bz) (bn (o513 P) bz bz)))) (bn (o46 P) (bn (o84 P) (bn (o156 P) (bn (o288 P) (bn (o567 P) bz bz) bz) (bn (o424 P) bz bz)) (bn (o222 P) (bn (o354 P) (bn (o633 P) bz bz) bz) (bn (o494 P) bz bz))) (bn (o122 P) (bn (o188 P) (bn (o320 P) (bn (o599 P) bz bz) bz) (bn (o459 P) bz bz)) (bn (o256 P) (bn (o389 P) (bn (o665 P) bz bz) bz) (bn (o529 P) bz bz))))) (bn (o16 P) (bn (o35 P) (bn (o76 P) (bn (o148 P) (bn (o280 P) (bn (o556 P) bz bz) bz) (bn (o416 P) (bn (o689 P) bz bz) bz)) (bn (o212 P) (bn (o346 P) (bn (o625 P) bz bz) bz) (bn (o486 P) bz bz))) (bn (o114 P) (bn (o180 P) (bn (o312 P) (bn (o591 P) bz bz) bz) (bn (o451 P) bz bz)) (bn (o248 P) (bn (o381 P) (bn (o657 P) bz bz) bz) (bn (o521 P) bz bz)))) (bn (o54 P) (bn (o95 P) (bn (o164 P) (bn (o296 P) (bn (o575 P) bz bz) bz) (bn (o432 P) bz bz)) (bn (o230 P) (bn (o362 P) (bn (o641 P) bz bz) bz) (bn (o505 P) bz bz))) (bn (o130 P) (bn (o196 P) (bn (o328 P) (bn (o607 P) bz bz) bz) (bn (o467 P) bz bz)) (bn (o264 P) (bn (o397 P) (bn (o673 P) bz bz) bz) (bn (o540 P) bz bz)))))) (bn (o2 P) (bn (o12 P) (bn (o31 P) (bn (o69 P) (bn (o144 P) (bn (o276 P) (bn (o552 P) bz bz) bz) (bn (o409 P) (bn (o685 P) bz bz) bz)) (bn (o208 P) (bn (o342 P) (bn (o621 P) bz bz) bz) (bn (o482 P) bz bz))) (bn (o110 P) (bn (o176 P) (bn (o308 P) (bn (o587 P) bz bz) bz) (bn (o447 P) bz bz)) (bn (o244 P) (bn (o377 P) (bn (o653 P) bz bz) bz) (bn (o517 P) bz bz)))) (bn (o50 P) (bn (o91 P) (bn (o160 P) (bn (o292 P) (bn (o571 P) bz bz) bz) (bn (o428 P) bz bz)) (bn (o226 P) (bn (o358 P) (bn (o637 P) bz bz) bz) (bn (o498 P) bz bz))) (bn (o126 P) (bn (o192 P) (bn (o324 P) (bn (o603 P) bz bz) bz) (bn (o463 P) bz bz)) (bn (o260 P) (bn (o393 P) (bn (o669 P) bz bz) bz) (bn (o536 P) bz bz))))) (bn (o20 P) (bn (o39 P) (bn (o80 P) (bn (o152 P) (bn (o284 P) (bn (o563 P) bz bz) bz) (bn (o420 P) bz bz)) (bn (o218 P) (bn (o350 P) (bn (o629 P) bz bz) bz) (bn (o490 P) bz bz))) (bn (o118 P) (bn (o184 P) (bn (o316 P) (bn (o595 P) bz bz) bz) (bn (o455 P) bz bz)) (bn (o252 P) (bn (o385 P) (bn (o661 P) bz bz) bz) (bn (o525 P) bz bz)))) (bn (o61 P) (bn (o99 P) (bn (o168 P) (bn (o300 P) (bn (o579 P) bz bz) bz) (bn (o436 P) bz bz)) (bn (o234 P) (bn (o366 P) (bn (o645 P) bz bz) bz) (bn (o509 P) bz bz))) (bn (o134 P) (bn (o200 P) (bn (o332 P) (bn (o613 P) bz bz) bz) (bn (o471 P) bz bz)) (bn (o268 P) (bn (o401 P) (bn (o677 P) bz bz) bz) (bn (o544 P) bz bz)))))))) (bn (boot_o_2 P) (bn (boot_o_4 P) (bn (boot_o_8 P) (bn (o7 P) (bn (o23 P) (bn (o64 P) (bn (o137 P) (bn (o271 P) (bn (o547 P) bz bz) bz) (bn (o404 P) (bn (o680 P) bz bz) bz)) (bn (o203 P) (bn (o335 P) (bn (o616 P) bz bz) bz) (bn (o477 P) bz bz))) (bn (o105 P) (bn (o171 P) (bn (o303 P) (bn (o582 P) bz bz) bz) (bn (o439 P) bz bz)) (bn (o237 P) (bn (o446 P) (bn (o648 P) bz bz) bz) (bn (o512 P) bz bz)))) (bn (o45 P) (bn (o83 P) (bn (o155 P) (bn (o287 P) (bn (o566 P) bz bz) bz) (bn (o423 P) bz bz)) (bn (o221 P) (bn (o353 P) (bn (o632 P) bz bz) bz) (bn (o493 P) bz bz))) (bn (o121 P) (bn (o187 P) (bn (o319 P) (bn (o598 P) bz bz) bz) (bn (o458 P) bz bz)) (bn (o255 P) (bn (o388 P) (bn (o664 P) bz bz) bz) (bn (o528 P) bz bz))))) (bn (o15 P) (bn (o34 P) (bn (o75 P) (bn (o147 P) (bn (o279 P) (bn (o555 P) bz bz) bz) (bn (o415 P) (bn (o688 P) bz bz) bz)) (bn (o211 P) (bn (o345 P) (bn (o624 P) bz bz) bz) (bn (o485 P) bz bz))) (bn (o113 P) (bn (o179 P) (bn (o311 P) (bn (o590 P) bz bz) bz) (bn (o450 P) bz bz)) (bn (o247 P) (bn (o380 P) (bn (o656 P) bz bz) bz) (bn (o520 P) bz bz)))) (bn (o53 P) (bn (o94 P) (bn (o163 P) (bn (o295 P) (bn (o574 P) bz bz) bz) (bn (o431 P) bz bz)) (bn (o229 P) (bn (o361 P) (bn (o640 P) bz bz) bz) (bn (o501 P) bz bz))) (bn (o129 P) (bn (o195 P) (bn (o327 P) (bn (o606 P) bz bz) bz) (bn (o466 P) bz bz)) (bn (o263 P) (bn (o396 P) (bn (o672 P) bz bz) bz) (bn (o539 P) bz bz)))))) (bn (o611 P) (bn (o11 P) (bn (o30 P) (bn (o68 P) (bn (o141 P) (bn (o275 P) (bn (o551 P) bz bz) bz) (bn (o408 P) (bn (o684 P) bz bz) bz)) (bn (o207 P) (bn (o341 P) (bn (o620 P) bz bz) bz) (bn (o481 P) bz bz))) (bn (o109 P) (bn (o175 P) (bn (o307 P) (bn (o586 P) bz bz) bz) (bn (o443 P) bz bz)) (bn (o243 P) (bn (o373 P) (bn (o652 P) bz bz) bz) (bn (o516 P) bz bz)))) (bn (o49 P) (bn (o90 P) (bn (o159 P) (bn (o291 P) (bn (o570 P) bz bz) bz) (bn (o427 P) bz bz)) (bn (o225 P) (bn (o357 P) (bn (o636 P) bz bz) bz) (bn (o497 P) bz bz))) (bn (o125 P) (bn (o191 P) (bn (o323 P) (bn (o602 P) bz bz) bz) (bn (o462 P) bz bz)) (bn (o259 P) (bn (o392 P) (bn (o668 P) bz bz) bz) (bn (o535 P) bz bz))))) (bn (o19 P) (bn (o38 P) (bn (o79 P) (bn (o151 P) (bn (o283 P) (bn (o559 P) bz bz) bz) (bn (o419 P) bz bz)) (bn (o217 P) (bn (o349 P) (bn (o628 P) bz bz) bz) (bn (o489 P) bz bz))) (bn (o117 P) (bn (o183 P) (bn (o315 P) (bn (o594 P) bz bz) bz) (bn (o454 P) bz bz)) (bn (o251 P) (bn (o384 P) (bn (o660 P) bz bz) bz) (bn (o524 P) bz bz)))) (bn (o60 P) (bn (o98 P) (bn (o167 P) (bn (o299 P) (bn (o578 P) bz bz) bz) (bn (o435 P) bz bz)) (bn (o233 P) (bn (o365 P) (bn (o644 P) bz bz) bz) (bn (o508 P) bz bz))) (bn (o133 P) (bn (o199 P) (bn (o331 P) (bn (o612 P) bz bz) bz) (bn (o562 P) bz bz)) (bn (o267 P) (bn (o400 P) (bn (o676 P) bz bz) bz) (bn (o543 P) bz bz))))))) (bn (boot_o_6 P) (bn (boot_o_10 P) (bn (o9 P) (bn (o25 P) (bn (o66 P) (bn (o139 P) (bn (o273 P) (bn (o549 P) bz bz) bz) (bn (o406 P) (bn (o682 P) bz bz) bz)) (bn (o205 P) (bn (o339 P) (bn (o618 P) bz bz) bz) (bn (o479 P) bz bz))) (bn (o107 P) (bn (o173 P) (bn (o305 P) (bn (o584 P) bz bz) bz) (bn (o441 P) bz bz)) (bn (o241 P) (bn (o371 P) (bn (o650 P) bz bz) bz) (bn (o514 P) bz bz)))) (bn (o47 P) (bn (o85 P) (bn (o157 P) (bn (o289 P) (bn (o568 P) bz bz) bz) (bn (o425 P) bz bz)) (bn (o223 P) (bn (o355 P) (bn (o634 P) bz bz) bz) (bn (o495 P) bz bz))) (bn (o123 P) (bn (o189 P) (bn (o321 P) (bn (o600 P) bz bz) bz) (bn (o460 P) bz bz)) (bn (o257 P) (bn (o390 P) (bn (o666 P) bz bz) bz) (bn (o530 P) bz bz))))) (bn (o17 P) (bn (o36 P) (bn (o77 P) (bn (o149 P) (bn (o281 P) (bn (o557 P) bz bz) bz) (bn (o417 P) (bn (o690 P) bz bz) bz)) (bn (o213 P) (bn (o347 P) (bn (o626 P) bz bz) bz) (bn (o487 P) bz bz))) (bn (o115 P) (bn (o181 P) (bn (o313 P) (bn (o592 P) bz bz) bz) (bn (o452 P) bz bz)) (bn (o249 P) (bn (o382 P) (bn (o658 P) bz bz) bz) (bn (o522 P) bz bz)))) (bn (o55 P) (bn (o96 P) (bn (o165 P) (bn (o297 P) (bn (o576 P) bz bz) bz) (bn (o433 P) bz bz)) (bn (o231 P) (bn (o363 P) (bn (o642 P) bz bz) bz) (bn (o506 P) bz bz))) (bn (o131 P) (bn (o197 P) (bn (o329 P) (bn (o608 P) bz bz) bz) (bn (o468 P) bz bz)) (bn (o265 P) (bn (o398 P) (bn (o674 P) bz bz) bz) (bn (o541 P) bz bz)))))) (bn (o3 P) (bn (o13 P) (bn (o32 P) (bn (o70 P) (bn (o145 P) (bn (o277 P) (bn (o553 P) bz bz) bz) (bn (o413 P) (bn (o686 P) bz bz) bz)) (bn (o209 P) (bn (o343 P) (bn (o622 P) bz bz) bz) (bn (o483 P) bz bz))) (bn (o111 P) (bn (o177 P) (bn (o309 P) (bn (o588 P) bz bz) bz) (bn (o448 P) bz bz)) (bn (o245 P) (bn (o378 P) (bn (o654 P) bz bz) bz) (bn (o518 P) bz bz)))) (bn (o51 P) (bn (o92 P) (bn (o161 P) (bn (o293 P) (bn (o572 P) bz bz) bz) (bn (o429 P) bz bz)) (bn (o227 P) (bn (o359 P) (bn (o638 P) bz bz) bz) (bn (o499 P) bz bz))) (bn (o127 P) (bn (o193 P) (bn (o325 P) (bn (o604 P) bz bz) bz) (bn (o464 P) bz bz)) (bn (o261 P) (bn (o394 P) (bn (o670 P) bz bz) bz) (bn (o537 P) bz bz))))) (bn (o21 P) (bn (o40 P) (bn (o81 P) (bn (o153 P) (bn (o285 P) (bn (o564 P) bz bz) bz) (bn (o421 P) bz bz)) (bn (o219 P) (bn (o351 P) (bn (o630 P) bz bz) bz) (bn (o491 P) bz bz))) (bn (o119 P) (bn (o185 P) (bn (o317 P) (bn (o596 P) bz bz) bz) (bn (o456 P) bz bz)) (bn (o253 P) (bn (o386 P) (bn (o662 P) bz bz) bz) (bn (o526 P) bz bz)))) (bn (o62 P) (bn (o100 P) (bn (o169 P) (bn (o301 P) (bn (o580 P) bz bz) bz) (bn (o437 P) bz bz)) (bn (o235 P) (bn (o367 P) (bn (o646 P) bz bz) bz) (bn (o510 P) bz bz))) (bn (o135 P) (bn (o201 P) (bn (o333 P) (bn (o614 P) bz bz) bz) (bn (o472 P) bz bz)) (bn (o269 P) (bn (o402 P) (bn (o678 P) bz bz) bz) (bn (o545 P) bz bz)))))))))
theorem pc19 : Hd.Pc pp env T18 572 919 T19 651 1019 375 [tp 40, tp 41, tp 42, tp 43, tp 44, tp 45, tp 46, tp 47, tp 48, tp 49, tp 50, tp 51, tp 52] ⟨250, 0, 253, 12⟩ ⟨329, 0, 347, 15⟩ := by
  intro w
  kernel_rfl
noncomputable def Hf (P : Params) : Heap := ⟨Array.mk [boot_o_0 P,boot_o_1 P,boot_o_2 P,o610 P,boot_o_4 P,boot_o_5 P,boot_o_6 P,boot_o_7 P,boot_o_8 P,boot_o_9 P,boot_o_10 P,o0 P,o611 P,o2 P,o3 P,o6 P,o7 P,o8 P,o9 P,o10 P,o11 P,o12 P,o13 P,o14 P,o15 P,o16 P,o17 P,o18 P,o19 P,o20 P,o21 P,o103 P,o23 P,o24 P,o25 P,o29 P,o30 P,o31 P,o32 P,o33 P,o34 P,o35 P,o36 P,o37 P,o38 P,o39 P,o40 P,o44 P,o45 P,o46 P,o47 P,o48 P,o49 P,o50 P,o51 P,o52 P,o53 P,o54 P,o55 P,o59 P,o60 P,o61 P,o62 P,o63 P,o64 P,o65 P,o66 P,o67 P,o68 P,o69 P,o70 P,o74 P,o75 P,o76 P,o77 P,o78 P,o79 P,o80 P,o81 P,o82 P,o83 P,o84 P,o85 P,o89 P,o90 P,o91 P,o92 P,o93 P,o94 P,o95 P,o96 P,o97 P,o98 P,o99 P,o100 P,o104 P,o105 P,o106 P,o107 P,o108 P,o109 P,o110 P,o111 P,o112 P,o113 P,o114 P,o115 P,o116 P,o117 P,o118 P,o119 P,o120 P,o121 P,o122 P,o123 P,o124 P,o125 P,o126 P,o127 P,o128 P,o129 P,o130 P,o131 P,o132 P,o133 P,o134 P,o135 P,o136 P,o137 P,o138 P,o139 P,o140 P,o141 P,o144 P,o145 P,o146 P,o147 P,o148 P,o149 P,o150 P,o151 P,o152 P,o153 P,o154 P,o155 P,o156 P,o157 P,o158 P,o159 P,o160 P,o161 P,o162 P,o163 P,o164 P,o165 P,o166 P,o167 P,o168 P,o169 P,o170 P,o171 P,o172 P,o173 P,o174 P,o175 P,o176 P,o177 P,o178 P,o179 P,o180 P,o181 P,o182 P,o183 P,o184 P,o185 P,o186 P,o187 P,o188 P,o189 P,o190 P,o191 P,o192 P,o193 P,o194 P,o195 P,o196 P,o197 P,o198 P,o199 P,o200 P,o201 P,o202 P,o203 P,o204 P,o205 P,o206 P,o207 P,o208 P,o209 P,o210 P,o211 P,o212 P,o213 P,o214 P,o217 P,o218 P,o219 P,o220 P,o221 P,o222 P,o223 P,o224 P,o225 P,o226 P,o227 P,o228 P,o229 P,o230 P,o231 P,o232 P,o233 P,o234 P,o235 P,o236 P,o237 P,o240 P,o241 P,o242 P,o243 P,o244 P,o245 P,o246 P,o247 P,o248 P,o249 P,o250 P,o251 P,o252 P,o253 P,o254 P,o255 P,o256 P,o257 P,o258 P,o259 P,o260 P,o261 P,o262 P,o263 P,o264 P,o265 P,o266 P,o267 P,o268 P,o269 P,o270 P,o271 P,o272 P,o273 P,o274 P,o275 P,o276 P,o277 P,o278 P,o279 P,o280 P,o281 P,o282 P,o283 P,o284 P,o285 P,o286 P,o287 P,o288 P,o289 P,o290 P,o291 P,o292 P,o293 P,o294 P,o295 P,o296 P,o297 P,o298 P,o299 P,o300 P,o301 P,o302 P,o303 P,o304 P,o305 P,o306 P,o307 P,o308 P,o309 P,o310 P,o311 P,o312 P,o313 P,o314 P,o315 P,o316 P,o317 P,o318 P,o319 P,o320 P,o321 P,o322 P,o323 P,o324 P,o325 P,o326 P,o327 P,o328 P,o329 P,o330 P,o331 P,o332 P,o333 P,o334 P,o335 P,o336 P,o339 P,o340 P,o341 P,o342 P,o343 P,o344 P,o345 P,o346 P,o347 P,o348 P,o349 P,o350 P,o351 P,o352 P,o353 P,o354 P,o355 P,o356 P,o357 P,o358 P,o359 P,o360 P,o361 P,o362 P,o363 P,o364 P,o365 P,o366 P,o367 P,o368 P,o446 P,o370 P,o371 P,o372 P,o373 P,o377 P,o378 P,o379 P,o380 P,o381 P,o382 P,o383 P,o384 P,o385 P,o386 P,o387 P,o388 P,o389 P,o390 P,o391 P,o392 P,o393 P,o394 P,o395 P,o396 P,o397 P,o398 P,o399 P,o400 P,o401 P,o402 P,o403 P,o404 P,o405 P,o406 P,o407 P,o408 P,o409 P,o413 P,o414 P,o415 P,o416 P,o417 P,o418 P,o419 P,o420 P,o421 P,o422 P,o423 P,o424 P,o425 P,o426 P,o427 P,o428 P,o429 P,o430 P,o431 P,o432 P,o433 P,o434 P,o435 P,o436 P,o437 P,o438 P,o439 P,o440 P,o441 P,o442 P,o443 P,o447 P,o448 P,o449 P,o450 P,o451 P,o452 P,o453 P,o454 P,o455 P,o456 P,o457 P,o458 P,o459 P,o460 P,o461 P,o462 P,o463 P,o464 P,o465 P,o466 P,o467 P,o468 P,o469 P,o562 P,o471 P,o472 P,o476 P,o477 P,o478 P,o479 P,o480 P,o481 P,o482 P,o483 P,o484 P,o485 P,o486 P,o487 P,o488 P,o489 P,o490 P,o491 P,o492 P,o493 P,o494 P,o495 P,o496 P,o497 P,o498 P,o499 P,o500 P,o501 P,o505 P,o506 P,o507 P,o508 P,o509 P,o510 P,o511 P,o512 P,o513 P,o514 P,o515 P,o516 P,o517 P,o518 P,o519 P,o520 P,o521 P,o522 P,o523 P,o524 P,o525 P,o526 P,o527 P,o528 P,o529 P,o530 P,o534 P,o535 P,o536 P,o537 P,o538 P,o539 P,o540 P,o541 P,o542 P,o543 P,o544 P,o545 P,o546 P,o547 P,o548 P,o549 P,o550 P,o551 P,o552 P,o553 P,o554 P,o555 P,o556 P,o557 P,o558 P,o559 P,o563 P,o564 P,o565 P,o566 P,o567 P,o568 P,o569 P,o570 P,o571 P,o572 P,o573 P,o574 P,o575 P,o576 P,o577 P,o578 P,o579 P,o580 P,o581 P,o582 P,o583 P,o584 P,o585 P,o586 P,o587 P,o588 P,o589 P,o590 P,o591 P,o592 P,o593 P,o594 P,o595 P,o596 P,o597 P,o598 P,o599 P,o600 P,o601 P,o602 P,o603 P,o604 P,o605 P,o606 P,o607 P,o608 P,o609 P,o612 P,o613 P,o614 P,o615 P,o616 P,o617 P,o618 P,o619 P,o620 P,o621 P,o622 P,o623 P,o624 P,o625 P,o626 P,o627 P,o628 P,o629 P,o630 P,o631 P,o632 P,o633 P,o634 P,o635 P,o636 P,o637 P,o638 P,o639 P,o640 P,o641 P,o642 P,o643 P,o644 P,o645 P,o646 P,o647 P,o648 P,o649 P,o650 P,o651 P,o652 P,o653 P,o654 P,o655 P,o656 P,o657 P,o658 P,o659 P,o660 P,o661 P,o662 P,o663 P,o664 P,o665 P,o666 P,o667 P,o668 P,o669 P,o670 P,o671 P,o672 P,o673 P,o674 P,o675 P,o676 P,o677 P,o678 P,o679 P,o680 P,o681 P,o682 P,o683 P,o684 P,o685 P,o686 P,o687 P,o688 P,o689 P,o690 P],Hd.lf⟩
theorem fin : Hd.Fi pp env T19 651 1019 Hf 1019 2 ⟨329, 0, 347, 15⟩ := by
  intro w
  kernel_rfl
noncomputable def vw : Program := { pp with main := { pp.main with body := [tp 0,tp 2,tp 3,tp 4,tp 5,tp 6,tp 7,tp 8,tp 10,tp 11,tp 12,tp 13,tp 14,tp 15,tp 16,tp 17,tp 18,tp 20,tp 21,tp 22,tp 23,tp 24,tp 26,tp 27,tp 28,tp 29,tp 30,tp 31,tp 32,tp 33,tp 34,tp 35,tp 36,tp 38,tp 39,tp 40,tp 41,tp 42,tp 43,tp 44,tp 45,tp 46,tp 47,tp 48,tp 49,tp 50,tp 51,tp 52] } }
noncomputable def kk (P : Params) : Frag :=
  (nat_lit 2, boot_o_2 P) :: (nat_lit 3, o610 P) :: (nat_lit 15, o6 P) :: (nat_lit 17, o8 P) :: (nat_lit 18, o9 P) :: (nat_lit 20, o11 P) :: (nat_lit 21, o12 P) :: (nat_lit 22, o13 P) :: (nat_lit 29, o20 P) :: (nat_lit 30, o21 P) :: (nat_lit 31, o103 P) :: (nat_lit 32, o23 P) :: (nat_lit 35, o29 P) :: (nat_lit 42, o36 P) :: (nat_lit 43, o37 P) :: (nat_lit 44, o38 P) :: (nat_lit 47, o44 P) :: (nat_lit 54, o51 P) :: (nat_lit 55, o52 P) :: (nat_lit 56, o53 P) :: (nat_lit 59, o59 P) :: (nat_lit 66, o66 P) :: (nat_lit 67, o67 P) :: (nat_lit 68, o68 P) :: (nat_lit 71, o74 P) :: (nat_lit 78, o81 P) :: (nat_lit 79, o82 P) :: (nat_lit 80, o83 P) :: (nat_lit 83, o89 P) :: (nat_lit 90, o96 P) :: (nat_lit 91, o97 P) :: (nat_lit 92, o98 P) :: (nat_lit 95, o104 P) :: (nat_lit 102, o111 P) :: (nat_lit 103, o112 P) :: (nat_lit 104, o113 P) :: (nat_lit 107, o116 P) :: (nat_lit 110, o119 P) :: (nat_lit 111, o120 P) :: (nat_lit 112, o121 P) :: (nat_lit 114, o123 P) :: (nat_lit 115, o124 P) :: (nat_lit 117, o126 P) :: (nat_lit 118, o127 P) :: (nat_lit 119, o128 P) :: (nat_lit 121, o130 P) :: (nat_lit 122, o131 P) :: (nat_lit 124, o133 P) :: (nat_lit 125, o134 P) :: (nat_lit 126, o135 P) :: (nat_lit 128, o137 P) :: (nat_lit 129, o138 P) :: (nat_lit 131, o140 P) :: (nat_lit 132, o141 P) :: (nat_lit 140, o151 P) :: (nat_lit 141, o152 P) :: (nat_lit 143, o154 P) :: (nat_lit 144, o155 P) :: (nat_lit 146, o157 P) :: (nat_lit 147, o158 P) :: (nat_lit 148, o159 P) :: (nat_lit 150, o161 P) :: (nat_lit 151, o162 P) :: (nat_lit 153, o164 P) :: (nat_lit 154, o165 P) :: (nat_lit 155, o166 P) :: (nat_lit 157, o168 P) :: (nat_lit 158, o169 P) :: (nat_lit 160, o171 P) :: (nat_lit 161, o172 P) :: (nat_lit 162, o173 P) :: (nat_lit 164, o175 P) :: (nat_lit 165, o176 P) :: (nat_lit 167, o178 P) :: (nat_lit 168, o179 P) :: (nat_lit 169, o180 P) :: (nat_lit 171, o182 P) :: (nat_lit 172, o183 P) :: (nat_lit 174, o185 P) :: (nat_lit 175, o186 P) :: (nat_lit 176, o187 P) :: (nat_lit 178, o189 P) :: (nat_lit 179, o190 P) :: (nat_lit 181, o192 P) :: (nat_lit 182, o193 P) :: (nat_lit 183, o194 P) :: (nat_lit 185, o196 P) :: (nat_lit 186, o197 P) :: (nat_lit 188, o199 P) :: (nat_lit 189, o200 P) :: (nat_lit 190, o201 P) :: (nat_lit 192, o203 P) :: (nat_lit 193, o204 P) :: (nat_lit 195, o206 P) :: (nat_lit 196, o207 P) :: (nat_lit 197, o208 P) :: (nat_lit 198, o209 P) :: (nat_lit 199, o210 P) :: (nat_lit 200, o211 P) :: (nat_lit 201, o212 P) :: (nat_lit 204, o217 P) :: (nat_lit 206, o219 P) :: (nat_lit 207, o220 P) :: (nat_lit 209, o222 P) :: (nat_lit 210, o223 P) :: (nat_lit 211, o224 P) :: (nat_lit 213, o226 P) :: (nat_lit 214, o227 P) :: (nat_lit 216, o229 P) :: (nat_lit 217, o230 P) :: (nat_lit 218, o231 P) :: (nat_lit 220, o233 P) :: (nat_lit 221, o234 P) :: (nat_lit 223, o236 P) :: (nat_lit 224, o237 P) :: (nat_lit 232, o247 P) :: (nat_lit 233, o248 P) :: (nat_lit 236, o251 P) :: (nat_lit 237, o252 P) :: (nat_lit 238, o253 P) :: (nat_lit 240, o255 P) :: (nat_lit 241, o256 P) :: (nat_lit 243, o258 P) :: (nat_lit 244, o259 P) :: (nat_lit 245, o260 P) :: (nat_lit 247, o262 P) :: (nat_lit 248, o263 P) :: (nat_lit 250, o265 P) :: (nat_lit 251, o266 P) :: (nat_lit 252, o267 P) :: (nat_lit 254, o269 P) :: (nat_lit 255, o270 P) :: (nat_lit 257, o272 P) :: (nat_lit 258, o273 P) :: (nat_lit 259, o274 P) :: (nat_lit 261, o276 P) :: (nat_lit 262, o277 P) :: (nat_lit 264, o279 P) :: (nat_lit 265, o280 P) :: (nat_lit 266, o281 P) :: (nat_lit 268, o283 P) :: (nat_lit 269, o284 P) :: (nat_lit 271, o286 P) :: (nat_lit 272, o287 P) :: (nat_lit 273, o288 P) :: (nat_lit 275, o290 P) :: (nat_lit 276, o291 P) :: (nat_lit 278, o293 P) :: (nat_lit 279, o294 P) :: (nat_lit 280, o295 P) :: (nat_lit 282, o297 P) :: (nat_lit 283, o298 P) :: (nat_lit 285, o300 P) :: (nat_lit 286, o301 P) :: (nat_lit 287, o302 P) :: (nat_lit 289, o304 P) :: (nat_lit 290, o305 P) :: (nat_lit 292, o307 P) :: (nat_lit 293, o308 P) :: (nat_lit 294, o309 P) :: (nat_lit 296, o311 P) :: (nat_lit 297, o312 P) :: (nat_lit 299, o314 P) :: (nat_lit 300, o315 P) :: (nat_lit 301, o316 P) :: (nat_lit 303, o318 P) :: (nat_lit 304, o319 P) :: (nat_lit 306, o321 P) :: (nat_lit 307, o322 P) :: (nat_lit 308, o323 P) :: (nat_lit 310, o325 P) :: (nat_lit 311, o326 P) :: (nat_lit 313, o328 P) :: (nat_lit 314, o329 P) :: (nat_lit 315, o330 P) :: (nat_lit 316, o331 P) :: (nat_lit 317, o332 P) :: (nat_lit 318, o333 P) :: (nat_lit 319, o334 P) :: (nat_lit 322, o339 P) :: (nat_lit 324, o341 P) :: (nat_lit 325, o342 P) :: (nat_lit 327, o344 P) :: (nat_lit 328, o345 P) :: (nat_lit 336, o353 P) :: (nat_lit 338, o355 P) :: (nat_lit 339, o356 P) :: (nat_lit 341, o358 P) :: (nat_lit 342, o359 P) :: (nat_lit 343, o360 P) :: (nat_lit 345, o362 P) :: (nat_lit 346, o363 P) :: (nat_lit 348, o365 P) :: (nat_lit 349, o366 P) :: (nat_lit 350, o367 P) :: (nat_lit 351, o368 P) :: (nat_lit 352, o446 P) :: (nat_lit 353, o370 P) :: (nat_lit 354, o371 P) :: (nat_lit 357, o377 P) :: (nat_lit 364, o384 P) :: (nat_lit 366, o386 P) :: (nat_lit 367, o387 P) :: (nat_lit 369, o389 P) :: (nat_lit 370, o390 P) :: (nat_lit 371, o391 P) :: (nat_lit 373, o393 P) :: (nat_lit 374, o394 P) :: (nat_lit 376, o396 P) :: (nat_lit 377, o397 P) :: (nat_lit 378, o398 P) :: (nat_lit 380, o400 P) :: (nat_lit 381, o401 P) :: (nat_lit 383, o403 P) :: (nat_lit 384, o404 P) :: (nat_lit 385, o405 P) :: (nat_lit 386, o406 P) :: (nat_lit 387, o407 P) :: (nat_lit 390, o413 P) :: (nat_lit 397, o420 P) :: (nat_lit 399, o422 P) :: (nat_lit 400, o423 P) :: (nat_lit 402, o425 P) :: (nat_lit 403, o426 P) :: (nat_lit 404, o427 P) :: (nat_lit 406, o429 P) :: (nat_lit 407, o430 P) :: (nat_lit 409, o432 P) :: (nat_lit 410, o433 P) :: (nat_lit 411, o434 P) :: (nat_lit 414, o437 P) :: (nat_lit 415, o438 P) :: (nat_lit 416, o439 P) :: (nat_lit 417, o440 P) :: (nat_lit 418, o441 P) :: (nat_lit 421, o447 P) :: (nat_lit 428, o454 P) :: (nat_lit 430, o456 P) :: (nat_lit 431, o457 P) :: (nat_lit 433, o459 P) :: (nat_lit 434, o460 P) :: (nat_lit 435, o461 P) :: (nat_lit 437, o463 P) :: (nat_lit 438, o464 P) :: (nat_lit 440, o466 P) :: (nat_lit 441, o467 P) :: (nat_lit 442, o468 P) :: (nat_lit 443, o469 P) :: (nat_lit 444, o562 P) :: (nat_lit 447, o476 P) :: (nat_lit 454, o483 P) :: (nat_lit 456, o485 P) :: (nat_lit 457, o486 P) :: (nat_lit 459, o488 P) :: (nat_lit 460, o489 P) :: (nat_lit 461, o490 P) :: (nat_lit 463, o492 P) :: (nat_lit 464, o493 P) :: (nat_lit 466, o495 P) :: (nat_lit 467, o496 P) :: (nat_lit 468, o497 P) :: (nat_lit 469, o498 P) :: (nat_lit 470, o499 P) :: (nat_lit 473, o505 P) :: (nat_lit 480, o512 P) :: (nat_lit 482, o514 P) :: (nat_lit 483, o515 P) :: (nat_lit 485, o517 P) :: (nat_lit 486, o518 P) :: (nat_lit 487, o519 P) :: (nat_lit 489, o521 P) :: (nat_lit 490, o522 P) :: (nat_lit 492, o524 P) :: (nat_lit 493, o525 P) :: (nat_lit 494, o526 P) :: (nat_lit 495, o527 P) :: (nat_lit 496, o528 P) :: (nat_lit 499, o534 P) :: (nat_lit 506, o541 P) :: (nat_lit 508, o543 P) :: (nat_lit 509, o544 P) :: (nat_lit 511, o546 P) :: (nat_lit 512, o547 P) :: (nat_lit 513, o548 P) :: (nat_lit 515, o550 P) :: (nat_lit 516, o551 P) :: (nat_lit 518, o553 P) :: (nat_lit 519, o554 P) :: (nat_lit 520, o555 P) :: (nat_lit 521, o556 P) :: (nat_lit 522, o557 P) :: (nat_lit 525, o563 P) :: (nat_lit 532, o570 P) :: (nat_lit 534, o572 P) :: (nat_lit 535, o573 P) :: (nat_lit 537, o575 P) :: (nat_lit 538, o576 P) :: (nat_lit 539, o577 P) :: (nat_lit 541, o579 P) :: (nat_lit 542, o580 P) :: (nat_lit 544, o582 P) :: (nat_lit 545, o583 P) :: (nat_lit 546, o584 P) :: (nat_lit 547, o585 P) :: (nat_lit 548, o586 P) :: (nat_lit 551, o589 P) :: (nat_lit 553, o591 P) :: (nat_lit 554, o592 P) :: (nat_lit 556, o594 P) :: (nat_lit 557, o595 P) :: (nat_lit 558, o596 P) :: (nat_lit 560, o598 P) :: (nat_lit 561, o599 P) :: (nat_lit 563, o601 P) :: (nat_lit 564, o602 P) :: (nat_lit 565, o603 P) :: (nat_lit 567, o605 P) :: (nat_lit 568, o606 P) :: (nat_lit 570, o608 P) :: (nat_lit 571, o609 P) :: (nat_lit 572, o612 P) :: (nat_lit 575, o615 P) :: (nat_lit 576, o616 P) :: (nat_lit 577, o617 P) :: (nat_lit 580, o620 P) :: (nat_lit 581, o621 P) :: (nat_lit 582, o622 P) :: (nat_lit 584, o624 P) :: (nat_lit 585, o625 P) :: (nat_lit 587, o627 P) :: (nat_lit 588, o628 P) :: (nat_lit 589, o629 P) :: (nat_lit 591, o631 P) :: (nat_lit 592, o632 P) :: (nat_lit 594, o634 P) :: (nat_lit 595, o635 P) :: (nat_lit 596, o636 P) :: (nat_lit 598, o638 P) :: (nat_lit 599, o639 P) :: (nat_lit 601, o641 P) :: (nat_lit 602, o642 P) :: (nat_lit 613, o653 P) :: (nat_lit 615, o655 P) :: (nat_lit 616, o656 P) :: (nat_lit 618, o658 P) :: (nat_lit 619, o659 P) :: (nat_lit 620, o660 P) :: (nat_lit 622, o662 P) :: (nat_lit 623, o663 P) :: (nat_lit 625, o665 P) :: (nat_lit 626, o666 P) :: (nat_lit 627, o667 P) :: (nat_lit 630, o670 P) :: (nat_lit 631, o671 P) :: (nat_lit 632, o672 P) :: (nat_lit 634, o674 P) :: (nat_lit 635, o675 P) :: (nat_lit 637, o677 P) :: (nat_lit 638, o678 P) :: (nat_lit 639, o679 P) :: (nat_lit 641, o681 P) :: (nat_lit 642, o682 P) :: (nat_lit 644, o684 P) :: (nat_lit 645, o685 P) :: (nat_lit 646, o686 P) :: (nat_lit 649, o689 P) :: (nat_lit 650, o690 P) :: []
noncomputable def kl : List Addr := [2,3,15,17,18,20,21,22,29,30,31,32,35,42,43,44,47,54,55,56,59,66,67,68,71,78,79,80,83,90,91,92,95,102,103,104,107,110,111,112,114,115,117,118,119,121,122,124,125,126,128,129,131,132,140,141,143,144,146,147,148,150,151,153,154,155,157,158,160,161,162,164,165,167,168,169,171,172,174,175,176,178,179,181,182,183,185,186,188,189,190,192,193,195,196,197,198,199,200,201,204,206,207,209,210,211,213,214,216,217,218,220,221,223,224,232,233,236,237,238,240,241,243,244,245,247,248,250,251,252,254,255,257,258,259,261,262,264,265,266,268,269,271,272,273,275,276,278,279,280,282,283,285,286,287,289,290,292,293,294,296,297,299,300,301,303,304,306,307,308,310,311,313,314,315,316,317,318,319,322,324,325,327,328,336,338,339,341,342,343,345,346,348,349,350,351,352,353,354,357,364,366,367,369,370,371,373,374,376,377,378,380,381,383,384,385,386,387,390,397,399,400,402,403,404,406,407,409,410,411,414,415,416,417,418,421,428,430,431,433,434,435,437,438,440,441,442,443,444,447,454,456,457,459,460,461,463,464,466,467,468,469,470,473,480,482,483,485,486,487,489,490,492,493,494,495,496,499,506,508,509,511,512,513,515,516,518,519,520,521,522,525,532,534,535,537,538,539,541,542,544,545,546,547,548,551,553,554,556,557,558,560,561,563,564,565,567,568,570,571,572,575,576,577,580,581,582,584,585,587,588,589,591,592,594,595,596,598,599,601,602,613,615,616,618,619,620,622,623,625,626,627,630,631,632,634,635,637,638,639,641,642,644,645,646,649,650]
theorem kl_eq : ∀ P, kl = (kk P).map (·.1) := by
  intro P
  kernel_rfl
noncomputable abbrev hk : Hook := kmHook kk kl kl_eq []
noncomputable def xt (s : Shared) : Bool := xlAt vw [] s && recOk (RowW.records (OpenRow.toRowW (OpenLaw.row PySem.Challenge.rw_roomward_k32_whole_rules_keep))) s
theorem looks : ∀ w : World, (fun os => ((staticsOk (importedModules pp.main.body) (boot_heap w.params) (Hf w.params) && namesBound pp (Hf w.params) && gensDone (Hd.Sh Hf 1019 w os) && laidKept (boot_heap w.params) (Hf w.params)),
    Hd.fSeen vw [] (importedModules pp.main.body) xt true (Hd.Sh Hf 1019 w os), hk.obs (Hd.Sh Hf 1019 w os))) = fun _ => (true, openGood vw [], hk.val w) := by
  intro w
  kernel_rfl
theorem body_eq : [tp 0, tp 1, tp 2] ++ ([tp 3] ++ ([tp 4] ++ ([tp 5] ++ ([tp 6] ++ ([tp 7] ++ ([tp 8, tp 9, tp 10, tp 11, tp 12, tp 13, tp 14, tp 15, tp 16, tp 17] ++ ([tp 18] ++ ([tp 19, tp 20, tp 21, tp 22, tp 23] ++ ([tp 24] ++ ([tp 25, tp 26, tp 27, tp 28] ++ ([tp 29] ++ ([tp 30] ++ ([tp 31] ++ ([tp 32] ++ ([tp 33] ++ ([tp 34] ++ ([tp 35, tp 36, tp 37, tp 38, tp 39] ++ ([tp 40, tp 41, tp 42, tp 43, tp 44, tp 45, tp 46, tp 47, tp 48, tp 49, tp 50, tp 51, tp 52] ++ [])))))))))))))))))) = behindTheImports pp := by
  kernel_rfl
theorem left : LeftO pp vw [] xt hk.obs hk.val 11406 true :=
  Hd.left_of (by kernel_rfl) (fun s => by kernel_rfl) (by decide) (by decide) (Hd.top_run pre blk body_eq (pc1.run (pc2.run (pc3.run (pc4.run (pc5.run (pc6.run (pc7.run (pc8.run (pc9.run (pc10.run (pc11.run (pc12.run (pc13.run (pc14.run (pc15.run (pc16.run (pc17.run (pc18.run (pc19.run fin.run)))))))))))))))))))) looks
end
end K32H
open PySem PySem.W PyProof.Rows
set_option maxRecDepth 100000 in
set_option maxHeartbeats 0 in
theorem PySem.Challenge.cw_roomward_k32_whole_rules_keep_holds : PySem.Challenge.rw_roomward_k32_whole_rules_keep.Holds := by
  w_on; o_law
  refine holds_open (q := K32H.vw) (loose := []) (Xt := K32H.xt) (XP := XL K32H.vw [])
    (Yf := Hook.obs (kmHook K32H.kk K32H.kl K32H.kl_eq [])) (Ya := Hook.val (kmHook K32H.kk K32H.kl K32H.kl_eq [])) (YP := Hook.says (kmHook K32H.kk K32H.kl K32H.kl_eq []))
    (N := 11406) K32H.left (Hook.of (kmHook K32H.kk K32H.kl K32H.kl_eq [])) (Hook.keeps (kmHook K32H.kk K32H.kl K32H.kl_eq [])) ?x XL.keeps (by rfl) (by rfl) (by rfl) ?f ?wr ?k1 ?ok ?b ?hw ?hc
  case x => exact fun s e => xl_of s (Bool.and_eq_true_iff.mp e).1
  case f => exact fun s e => recFacts_of (Bool.and_eq_true_iff.mp e).2
  case wr => rfl
  case k1 => first
    | assumption
    | decide +kernel
  case ok => decide +kernel
  case b => exact ⟨rfl, rfl, rfl, rfl, rfl, by decide +kernel⟩
  case hw => w_witness2
  k_fill
  refine' K32.walk (l := PySem.Challenge.rw_roomward_k32_whole_rules_keep) rfl rfl (fun w h Y => PySem.W.km_in_of Y) ?F
  case F =>
    intro w mg fa h KX G hmg
    refine' K32.all_mk KX G hmg ?a1 ?l1 ?c1 ?k1 ?a2 ?l2 ?c2 ?k2 ?a3 ?l3 ?c3 ?k3 ?a4 ?l4 ?c4 ?k4 ?a5 ?l5 ?c5 ?k5 ?a6 ?l6 ?c6 ?k6 ?a7 ?l7 ?c7 ?k7 ?a8 ?l8 ?c8 ?k8 ?a9 ?l9 ?c9 ?k9 ?a10 ?l10 ?c10 ?k10 ?a11 ?l11 ?c11 ?k11 ?a12 ?l12 ?c12 ?k12 ?a13 ?l13 ?c13 ?k13 ?a14 ?l14 ?c14 ?k14 ?a15 ?l15 ?c15 ?k15 ?a16 ?l16 ?c16 ?k16 ?a17 ?l17 ?c17 ?k17 ?a18 ?l18 ?c18 ?k18 ?a19 ?l19 ?c19 ?k19 ?a20 ?l20 ?c20 ?k20 ?a21 ?l21 ?c21 ?k21 ?a22 ?l22 ?c22 ?k22 ?aC ?qm0 ?lm0 ?cm0 ?km0 ?nm0 ?qm1 ?lm1 ?cm1 ?km1 ?nm1 ?aM ?qM0 ?lM0 ?cM0 ?kM0 ?nM0 ?qM1 ?lM1 ?cM1 ?kM1 ?nM1 ?qM2 ?lM2 ?cM2 ?kM2 ?nM2 ?qM3 ?lM3 ?cM3 ?kM3 ?nM3 ?qMI ?lMI ?cMI ?kMI ?nMI ?lE ?mkM ?kpM ?pgM ?hdM ?poM ?saM ?nM0_ ?nM1_ ?nM2_ ?nM3_ ?nM4_ ?qI ?lI ?cI ?kI ?nI ?lT ?mkC ?kpC ?pgC ?hdC ?poC ?saC ?nC0_ ?nC1_ ?aR0 ?qi0 ?li0 ?ci0 ?ki0 ?ni0 ?qg0 ?lg0 ?cg0 ?kg0 ?ng0 ?qb0 ?lb0 ?cb0 ?kb0 ?nb0 ?mkR0 ?kpR0 ?pgR0 ?hdR0 ?poR0 ?saR0 ?nR00_ ?nR01_ ?nR02_ ?nR03_ ?aR1 ?qi1 ?li1 ?ci1 ?ki1 ?ni1 ?qg1 ?lg1 ?cg1 ?kg1 ?ng1 ?qb1 ?lb1 ?cb1 ?kb1 ?nb1 ?mkR1 ?kpR1 ?pgR1 ?hdR1 ?poR1 ?saR1 ?nR10_ ?nR11_ ?nR12_ ?nR13_ ?aR2 ?qi2 ?li2 ?ci2 ?ki2 ?ni2 ?qg2 ?lg2 ?cg2 ?kg2 ?ng2 ?mkR2 ?kpR2 ?pgR2 ?hdR2 ?poR2 ?saR2 ?nR20_ ?nR21_ ?nR22_ ?nR23_ ?aR3 ?qi3 ?li3 ?ci3 ?ki3 ?ni3 ?qg3 ?lg3 ?cg3 ?kg3 ?ng3 ?mkR3 ?kpR3 ?pgR3 ?hdR3 ?poR3 ?saR3 ?nR30_ ?nR31_ ?nR32_ ?nR33_ ?aR4 ?qi4 ?li4 ?ci4 ?ki4 ?ni4 ?qg4 ?lg4 ?cg4 ?kg4 ?ng4 ?mkR4 ?kpR4 ?pgR4 ?hdR4 ?poR4 ?saR4 ?nR40_ ?nR41_ ?nR42_ ?nR43_ ?aR5 ?qi5 ?li5 ?ci5 ?ki5 ?ni5 ?qg5 ?lg5 ?cg5 ?kg5 ?ng5 ?mkR5 ?kpR5 ?pgR5 ?hdR5 ?poR5 ?saR5 ?nR50_ ?nR51_ ?nR52_ ?nR53_ ?aT ?qZ ?lZ ?cZ ?kZ ?nZ ?sT ?rT ?fT_ ?hT ?e0 ?e1 ?e3 ?e4 ?xa0 ?xa1 ?xa3 ?xa4 ?cst0 ?cst1 ?cst2 ?cst3 ?cst4 ?cst5 ?z0 ?z1 ?z2 ?z3 ?z4 ?z5 ?z6 ?z7 ?z8 ?z9
    (case a1 => k_is)
    (case l1 => k_is)
    (case c1 => k_is)
    (case k1 => k_is)
    (case a2 => k_is)
    (case l2 => k_is)
    (case c2 => k_is)
    (case k2 => k_is)
    (case a3 => k_is)
    (case l3 => k_is)
    (case c3 => k_is)
    (case k3 => k_is)
    (case a4 => k_is)
    (case l4 => k_is)
    (case c4 => k_is)
    (case k4 => k_is)
    (case a5 => k_is)
    (case l5 => k_is)
    (case c5 => k_is)
    (case k5 => k_is)
    (case a6 => k_is)
    (case l6 => k_is)
    (case c6 => k_is)
    (case k6 => k_is)
    (case a7 => k_is)
    (case l7 => k_is)
    (case c7 => k_is)
    (case k7 => k_is)
    (case a8 => k_is)
    (case l8 => k_is)
    (case c8 => k_is)
    (case k8 => k_is)
    (case a9 => k_is)
    (case l9 => k_is)
    (case c9 => k_is)
    (case k9 => k_is)
    (case a10 => k_is)
    (case l10 => k_is)
    (case c10 => k_is)
    (case k10 => k_is)
    (case a11 => k_is)
    (case l11 => k_is)
    (case c11 => k_is)
    (case k11 => k_is)
    (case a12 => k_is)
    (case l12 => k_is)
    (case c12 => k_is)
    (case k12 => k_is)
    (case a13 => k_is)
    (case l13 => k_is)
    (case c13 => k_is)
    (case k13 => k_is)
    (case a14 => k_is)
    (case l14 => k_is)
    (case c14 => k_is)
    (case k14 => k_is)
    (case a15 => k_is)
    (case l15 => k_is)
    (case c15 => k_is)
    (case k15 => k_is)
    (case a16 => k_is)
    (case l16 => k_is)
    (case c16 => k_is)
    (case k16 => k_is)
    (case a17 => k_is)
    (case l17 => k_is)
    (case c17 => k_is)
    (case k17 => k_is)
    (case a18 => k_is)
    (case l18 => k_is)
    (case c18 => k_is)
    (case k18 => k_is)
    (case a19 => k_is)
    (case l19 => k_is)
    (case c19 => k_is)
    (case k19 => k_is)
    (case a20 => k_is)
    (case l20 => k_is)
    (case c20 => k_is)
    (case k20 => k_is)
    (case a21 => k_is)
    (case l21 => k_is)
    (case c21 => k_is)
    (case k21 => k_is)
    (case a22 => k_is)
    (case l22 => k_is)
    (case c22 => k_is)
    (case k22 => k_is)
    (case aC => k_is)
    (case qm0 => k_is)
    (case lm0 => k_is)
    (case cm0 => k_is)
    (case km0 => k_is)
    (case nm0 => k_is)
    (case qm1 => k_is)
    (case lm1 => k_is)
    (case cm1 => k_is)
    (case km1 => k_is)
    (case nm1 => k_is)
    (case aM => k_is)
    (case qM0 => k_is)
    (case lM0 => k_is)
    (case cM0 => k_is)
    (case kM0 => k_is)
    (case nM0 => k_is)
    (case qM1 => k_is)
    (case lM1 => k_is)
    (case cM1 => k_is)
    (case kM1 => k_is)
    (case nM1 => k_is)
    (case qM2 => k_is)
    (case lM2 => k_is)
    (case cM2 => k_is)
    (case kM2 => k_is)
    (case nM2 => k_is)
    (case qM3 => k_is)
    (case lM3 => k_is)
    (case cM3 => k_is)
    (case kM3 => k_is)
    (case nM3 => k_is)
    (case qMI => k_is)
    (case lMI => k_is)
    (case cMI => k_is)
    (case kMI => k_is)
    (case nMI => k_is)
    (case lE => k_is)
    (case mkM => k_is)
    (case kpM => k_is)
    (case pgM => k_is)
    (case hdM => k_is)
    (case poM => k_is)
    (case saM => k_is)
    (case nM0_ => k_is)
    (case nM1_ => k_is)
    (case nM2_ => k_is)
    (case nM3_ => k_is)
    (case nM4_ => k_is)
    (case qI => k_is)
    (case lI => k_is)
    (case cI => k_is)
    (case kI => k_is)
    (case nI => k_is)
    (case lT => k_is)
    (case mkC => k_is)
    (case kpC => k_is)
    (case pgC => k_is)
    (case hdC => k_is)
    (case poC => k_is)
    (case saC => k_is)
    (case nC0_ => k_is)
    (case nC1_ => k_is)
    (case aR0 => k_is)
    (case qi0 => k_is)
    (case li0 => k_is)
    (case ci0 => k_is)
    (case ki0 => k_is)
    (case ni0 => k_is)
    (case qg0 => k_is)
    (case lg0 => k_is)
    (case cg0 => k_is)
    (case kg0 => k_is)
    (case ng0 => k_is)
    (case qb0 => k_is)
    (case lb0 => k_is)
    (case cb0 => k_is)
    (case kb0 => k_is)
    (case nb0 => k_is)
    (case mkR0 => k_is)
    (case kpR0 => k_is)
    (case pgR0 => k_is)
    (case hdR0 => k_is)
    (case poR0 => k_is)
    (case saR0 => k_is)
    (case nR00_ => k_is)
    (case nR01_ => k_is)
    (case nR02_ => k_is)
    (case nR03_ => k_is)
    (case aR1 => k_is)
    (case qi1 => k_is)
    (case li1 => k_is)
    (case ci1 => k_is)
    (case ki1 => k_is)
    (case ni1 => k_is)
    (case qg1 => k_is)
    (case lg1 => k_is)
    (case cg1 => k_is)
    (case kg1 => k_is)
    (case ng1 => k_is)
    (case qb1 => k_is)
    (case lb1 => k_is)
    (case cb1 => k_is)
    (case kb1 => k_is)
    (case nb1 => k_is)
    (case mkR1 => k_is)
    (case kpR1 => k_is)
    (case pgR1 => k_is)
    (case hdR1 => k_is)
    (case poR1 => k_is)
    (case saR1 => k_is)
    (case nR10_ => k_is)
    (case nR11_ => k_is)
    (case nR12_ => k_is)
    (case nR13_ => k_is)
    (case aR2 => k_is)
    (case qi2 => k_is)
    (case li2 => k_is)
    (case ci2 => k_is)
    (case ki2 => k_is)
    (case ni2 => k_is)
    (case qg2 => k_is)
    (case lg2 => k_is)
    (case cg2 => k_is)
    (case kg2 => k_is)
    (case ng2 => k_is)
    (case mkR2 => k_is)
    (case kpR2 => k_is)
    (case pgR2 => k_is)
    (case hdR2 => k_is)
    (case poR2 => k_is)
    (case saR2 => k_is)
    (case nR20_ => k_is)
    (case nR21_ => k_is)
    (case nR22_ => k_is)
    (case nR23_ => k_is)
    (case aR3 => k_is)
    (case qi3 => k_is)
    (case li3 => k_is)
    (case ci3 => k_is)
    (case ki3 => k_is)
    (case ni3 => k_is)
    (case qg3 => k_is)
    (case lg3 => k_is)
    (case cg3 => k_is)
    (case kg3 => k_is)
    (case ng3 => k_is)
    (case mkR3 => k_is)
    (case kpR3 => k_is)
    (case pgR3 => k_is)
    (case hdR3 => k_is)
    (case poR3 => k_is)
    (case saR3 => k_is)
    (case nR30_ => k_is)
    (case nR31_ => k_is)
    (case nR32_ => k_is)
    (case nR33_ => k_is)
    (case aR4 => k_is)
    (case qi4 => k_is)
    (case li4 => k_is)
    (case ci4 => k_is)
    (case ki4 => k_is)
    (case ni4 => k_is)
    (case qg4 => k_is)
    (case lg4 => k_is)
    (case cg4 => k_is)
    (case kg4 => k_is)
    (case ng4 => k_is)
    (case mkR4 => k_is)
    (case kpR4 => k_is)
    (case pgR4 => k_is)
    (case hdR4 => k_is)
    (case poR4 => k_is)
    (case saR4 => k_is)
    (case nR40_ => k_is)
    (case nR41_ => k_is)
    (case nR42_ => k_is)
    (case nR43_ => k_is)
    (case aR5 => k_is)
    (case qi5 => k_is)
    (case li5 => k_is)
    (case ci5 => k_is)
    (case ki5 => k_is)
    (case ni5 => k_is)
    (case qg5 => k_is)
    (case lg5 => k_is)
    (case cg5 => k_is)
    (case kg5 => k_is)
    (case ng5 => k_is)
    (case mkR5 => k_is)
    (case kpR5 => k_is)
    (case pgR5 => k_is)
    (case hdR5 => k_is)
    (case poR5 => k_is)
    (case saR5 => k_is)
    (case nR50_ => k_is)
    (case nR51_ => k_is)
    (case nR52_ => k_is)
    (case nR53_ => k_is)
    (case aT => k_is)
    (case qZ => k_is)
    (case lZ => k_is)
    (case cZ => k_is)
    (case kZ => k_is)
    (case nZ => k_is)
    (case sT => kernel_rfl)
    (case rT => kernel_rfl)
    (case fT_ => kernel_rfl)
    (case hT => kernel_rfl)
    (case e0 => k_is)
    (case e1 => k_is)
    (case e3 => k_is)
    (case e4 => k_is)
    (case xa0 => kernel_rfl)
    (case xa1 => kernel_rfl)
    (case xa3 => kernel_rfl)
    (case xa4 => kernel_rfl)
    (case cst0 => k_is)
    (case cst1 => k_is)
    (case cst2 => k_is)
    (case cst3 => k_is)
    (case cst4 => k_is)
    (case cst5 => k_is)
    (case z0 => k_is)
    (case z1 => k_is)
    (case z2 => k_is)
    (case z3 => k_is)
    (case z4 => k_is)
    (case z5 => k_is)
    (case z6 => k_is)
    (case z7 => k_is)
    (case z8 => k_is)
    (case z9 => k_is)

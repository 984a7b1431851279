import PyProof.Rows.All
import Wide.All
import OpenK.AllK
import Wide.FinOn
import PyProof.EqAt
import PyProof.EqKinds
import PyProof.TupleCall
import Lean
import PyProof.NeKinds
import PyProof.NeData
import PyProof.FactsAll.dict
import PyProof.EnumFor
import PyProof.EnumMake
import PyProof.EnumStmt
import PyProof.DictUpdate
import KE.KDictList
import PyProof.DictItems
import PyProof.DictWalks
import PyProof.DictRoadsH
import PyProof.AttrMissHeap
import PyProof.DictTruth
import KE.KDictOf
import PyProof.Rows.TupTab
import PyProof.FactsAll.bool_1
import PyProof.StrOps2
import PyProof.FitsBits
import PyProof.Rows.IntMath
import PyProof.IsiPairs
import PyProof.IsiHeapPairs
import PyProof.IsiNone
import PySem.Challenge.RW_eachstepsame_k65_moves_one_by_one
set_option Elab.async false
set_option linter.all false
set_option maxRecDepth 100000
namespace L2
open PySem PySem.Spec PyProof.Rows
noncomputable abbrev Key := Sum Int Str
noncomputable def keyIs : Key → Value → Bool
  | .inl k, v => Value.isInt k v
  | .inr x, v => Value.isStrOf x v
noncomputable def keyH (w : World) : Key → Int
  | .inl k => hashInt k
  | .inr x => hashStr w x
theorem keyIs_shape : ∀ {k : Key} {v : Value}, keyIs k v = true → (∃ i t, k = Sum.inl i ∧ v = Value.int i t) ∨ (∃ x t, k = Sum.inr x ∧ v = Value.str x t)
  | .inl i, v, h => by
    obtain ⟨t, e⟩ := Value.isInt_shape (k := i) (v := v) h
    exact .inl ⟨i, t, rfl, e⟩
  | .inr x, v, h => by
    obtain ⟨t, e⟩ := Value.isStrOf_shape (x := x) (v := v) h
    exact .inr ⟨x, t, rfl, e⟩
theorem keyIs_int (i : Int) (t : Tok) : keyIs (.inl i) (.int i t) = true := by simp [keyIs, Value.isInt]
theorem keyIs_str (x : Str) (t : Tok) : keyIs (.inr x) (.str x t) = true := by simp [keyIs, Value.isStrOf]
theorem key_ll (a b : Int) : decide ((Sum.inl a : Key) = Sum.inl b) = (a == b) := by
  by_cases e : a = b
  · subst e; simp
  · have h : ¬ (Sum.inl a : Key) = Sum.inl b := fun q => e (Sum.inl.inj q)
    rw [decide_eq_false h]
    exact (beq_eq_false_iff_ne.mpr e).symm
theorem key_rr (a b : Str) : decide ((Sum.inr a : Key) = Sum.inr b) = decide (a = b) := by
  by_cases e : a = b
  · subst e; simp
  · have h : ¬ (Sum.inr a : Key) = Sum.inr b := fun q => e (Sum.inr.inj q)
    rw [decide_eq_false h, decide_eq_false e]
theorem key_lr (a : Int) (b : Str) : decide ((Sum.inl a : Key) = Sum.inr b) = false := decide_eq_false (fun q => nomatch q)
theorem key_rl (a : Str) (b : Int) : decide ((Sum.inr a : Key) = Sum.inl b) = false := decide_eq_false (fun q => nomatch q)
noncomputable def mixKind (prog : Program) (w : World) : PySem.KeyKind prog w Key where
  is := keyIs
  hash := keyH w
  inj := fun v a b ha hb => by
    rcases keyIs_shape ha with ⟨i, t, rfl, rfl⟩ | ⟨x, t, rfl, rfl⟩
    · rcases keyIs_shape hb with ⟨j, u, rfl, e⟩ | ⟨y, u, rfl, e⟩
      · injection e with e1 _; rw [e1]
      · exact nomatch e
    · rcases keyIs_shape hb with ⟨j, u, rfl, e⟩ | ⟨y, u, rfl, e⟩
      · exact nomatch e
      · injection e with e1 _; rw [e1]
  byValue := fun k v h => by
    rcases keyIs_shape h with ⟨i, t, rfl, rfl⟩ | ⟨x, t, rfl, rfl⟩ <;> rfl
  pyHash := fun hv h => by
    rcases keyIs_shape hv with ⟨i, t, rfl, rfl⟩ | ⟨x, t, rfl, rfl⟩
    · exact wpAny_pyHash_int h
    · exact wpAny_pyHash_str h
  eqBool := fun hu hv h => by
    rcases keyIs_shape hu with ⟨i, t, rfl, rfl⟩ | ⟨x, t, rfl, rfl⟩
    · rcases keyIs_shape hv with ⟨j, u, rfl, rfl⟩ | ⟨y, u, rfl, rfl⟩
      · rw [key_ll] at h; exact wpAny_eqBool_int h
      · rw [key_lr] at h; exact SeqAt.EqAt.int_str i t y u _ _ _ _ h
    · rcases keyIs_shape hv with ⟨j, u, rfl, rfl⟩ | ⟨y, u, rfl, rfl⟩
      · rw [key_rl] at h; exact SeqAt.EqAt.str_int x t j u _ _ _ _ h
      · rw [key_rr] at h; exact wpAny_eqBool_str h
  «strs» := fun k x t v h => by
    rcases keyIs_shape h with ⟨i, u, rfl, e⟩ | ⟨y, u, rfl, e⟩
    · exact nomatch e
    · injection e with e1 _
      subst e1
      cases v <;> rfl
theorem mixKind_int (prog : Program) (w : World) (i : Int) (t : Tok) : (mixKind prog w).is (.inl i) (.int i t) = true := keyIs_int i t
theorem mixKind_str (prog : Program) (w : World) (x : Str) (t : Tok) : (mixKind prog w).is (.inr x) (.str x t) = true := keyIs_str x t
end L2
namespace L2
open PySem PySem.Spec PyProof.Rows
inductive V where
  | non | bl (b : Bool) | int (i : Int) | str (x : Str) | byt (b : Array UInt8) | flt (b : UInt64) | ref (a : Addr) | ty (n : String)
  deriving DecidableEq
noncomputable def RelV : V → Value → Prop
  | .non, u => u = Value.none
  | .bl b, u => u = Value.bool b
  | .int i, u => ∃ t, u = Value.int i t
  | .str x, u => ∃ t, u = Value.str x t
  | .byt b, u => ∃ t, u = Value.bytes b t
  | .flt b, u => ∃ t, u = Value.float b t
  | .ref a, u => u = Value.ref a
  | .ty n, u => u = Value.type n
noncomputable abbrev Vals : List V → List Value → Prop := Paired RelV
theorem Vals.length {xs : List V} {us : List Value} (r : Vals xs us) : xs.length = us.length := Paired.length r
theorem Vals.get : ∀ {xs : List V} {us : List Value} {i : Nat} {x : V}, Vals xs us → xs[i]? = some x → ∃ u, us[i]? = some u ∧ RelV x u
  | _, _, _, _, .nil, e => by simp at e
  | _, _, 0, _, .cons r _, e => by simp at e; subst e; exact ⟨_, rfl, r⟩
  | _, _, i + 1, x, .cons _ t, e => by
    obtain ⟨u, h1, h2⟩ := Vals.get (i := i) (x := x) t (by simpa using e)
    exact ⟨u, by simpa using h1, h2⟩
theorem Vals.set {x : V} {u : Value} (r : RelV x u) : ∀ {xs : List V} {us : List Value} (i : Nat), Vals xs us → Vals (xs.set i x) (us.set i u)
  | _, _, _, .nil => .nil
  | _, _, 0, .cons _ t => .cons r t
  | _, _, i + 1, .cons q t => .cons q (Vals.set r i t)
theorem Vals.append : ∀ {xs ys : List V} {us ws : List Value}, Vals xs us → Vals ys ws → Vals (xs ++ ys) (us ++ ws)
  | _, _, _, _, .nil, s => s
  | _, _, _, _, .cons r t, s => .cons r (Vals.append t s)
theorem Vals.take : ∀ {xs : List V} {us : List Value} (n : Nat), Vals xs us → Vals (xs.take n) (us.take n)
  | _, _, 0, _ => .nil
  | _, _, _ + 1, .nil => .nil
  | _, _, n + 1, .cons r t => .cons r (Vals.take n t)
theorem Vals.drop : ∀ {xs : List V} {us : List Value} (n : Nat), Vals xs us → Vals (xs.drop n) (us.drop n)
  | _, _, 0, r => r
  | _, _, _ + 1, .nil => .nil
  | _, _, n + 1, .cons _ t => Vals.drop n t
noncomputable def RelO : Option V → Option Value → Prop
  | some v, some u => RelV v u
  | none, none => True
  | _, _ => False
noncomputable def KV {κ : Type} : List (κ × V) → List (κ × Value) → Prop := Paired fun (p : κ × V) (q : κ × Value) => p.1 = q.1 ∧ RelV p.2 q.2
noncomputable def kV : Key → V
  | .inl i => .int i
  | .inr x => .str x
inductive HO where
  | lst (xs : List V)
  | tup (xs : List V)
  | dK (kvs : List (Key × V)) | dT (kvs : List (List Key × V))
  | set (S : Int → Bool) (n : Nat)
  | ins (C dx : Addr) (fs : List (Str × V))
  | own (x : Addr)
  | xd (fs : List (Str × V))
  | met (f x : Addr)
  | rng (lo hi : Int)
  | frz (o : Obj) (u : HO)
  | tbl (ps : Array Value)
  | ext (φ : Heap → Prop)
noncomputable abbrev Hp := Addr → Option HO
noncomputable def upd (H : Hp) (a : Addr) (o : HO) : Hp := fun b => if b = a then some o else H b
theorem upd_same {H : Hp} {a : Addr} {o : HO} : upd H a o a = some o := by unfold upd; rw [if_pos rfl]
theorem upd_ne {H : Hp} {a b : Addr} {o : HO} (h : b ≠ a) : upd H a o b = H b := by unfold upd; rw [if_neg h]
theorem ne_of {H : Hp} {a b : Addr} {o u : HO} (h : H a = some o) (h' : H b = some u) (d : o ≠ u) : a ≠ b := by
  intro e; subst e; rw [h] at h'; exact d (Option.some.inj h')
theorem ne_of_none {H : Hp} {a b : Addr} {o : HO} (h : H a = some o) (h' : H b = none) : a ≠ b := by
  intro e; subst e; rw [h] at h'; cases h'
section
variable (P : Program) (w : World)
noncomputable def ObjOk (H : Hp) (h : Heap) (a : Addr) : HO → Prop
  | .lst xs => xs.length ≤ sizeLine ∧ ∃ (its : List Value) (n : Nat), Vals xs its ∧ h.get? a = some { cls := .type "list", data := .seq its.toArray n }
  | .tup xs => xs.length ≤ sizeLine ∧ ∃ its : List Value, Vals xs its ∧ IsTup h a its.toArray
  | .dK kvs => kvs.length ≤ sizeLine ∧ (a == sysModules) = false ∧ ∃ vs, KV kvs vs ∧ h.DictOf (mixKind P w) a vs
  | .dT kvs => kvs.length ≤ sizeLine ∧ (a == sysModules) = false ∧ ∃ xs : List (List Key × Addr × Value),
      Paired (fun (p : List Key × V) (q : List Key × Addr × Value) => p.1 = q.1 ∧ H q.2.1 = some (.tup (p.1.map kV)) ∧ RelV p.2 q.2.2) kvs xs ∧
      ∃ o es ep, h.get? a = some o ∧ o.ExactDict ∧ o.data = .dict es ep ∧ es.toList = xs.map (entryOfKey (tupleKind (mixKind P w))) ∧ (xs.map (·.1)).Nodup
  | .set S n => h.SetOf (intKind P w) a S n
  | .ins C dx fs => H dx = some (.own a) ∧ fs.length ≤ 1000 ∧ dx ≠ a ∧ h.get? a = some (PySem.W.instObj C dx) ∧
      ∃ mA, h.Ns1 dx mA ∧ (∀ f, RelO (fs.lookup f) (mA f)) ∧ PySem.Within mA (fs.map (·.1))
  | .own _ => ∃ o, h.get? a = some o
  | .xd fs => ∃ mA, h.Ns1 a mA ∧ ∀ f, RelO (fs.lookup f) (mA f)
  | .rng lo hi => ∃ t u v, h.get? a = some { cls := .type "range", data := .fields #[.int lo t, .int hi u, .int 1 v] }
  | .frz o u => h.get? a = some o ∧ ObjOk H h a u
  | .tbl ps => h.get? a = some { cls := .none, data := .fields ps }
  | .met f x => h.get? a = some (PySem.W.methodObj (.ref f) (.ref x))
  | .ext φ => φ h ∧ (∃ o, h.get? a = some o) ∧ ∀ h1 h2 : Heap, φ h1 → (∀ o, h1.get? a = some o → h2.get? a = some o) → φ h2
noncomputable def HOk (H : Hp) (h : Heap) : Prop := ∀ a o, H a = some o → ObjOk P w H h a o
end
section
variable {P : Program} {w : World} {H H' : Hp} {h h' : Heap} {a : Addr} {o : HO}
theorem ObjOk.lt (x : ObjOk P w H h a o) : a < h.objs.size := by
  cases o with
  | lst xs => obtain ⟨_, _, _, _, e⟩ := x; exact Heap.lt_size e
  | tup xs => obtain ⟨_, _, _, p⟩ := x; exact p.lt
  | dK kvs => obtain ⟨_, _, _, _, o, _, _, e, _⟩ := x; exact Heap.lt_size e
  | dT kvs => obtain ⟨_, _, _, _, o, _, _, e, _⟩ := x; exact Heap.lt_size e
  | set S n => obtain ⟨o, _, _, _, e, _⟩ := x; exact Heap.lt_size e
  | ins C dx fs => obtain ⟨_, _, _, e, _⟩ := x; exact Heap.lt_size e
  | own y => obtain ⟨_, e⟩ := x; exact Heap.lt_size e
  | xd fs => obtain ⟨_, ⟨_, _, _, e, _⟩, _⟩ := x; exact Heap.lt_size e
  | rng lo hi => obtain ⟨_, _, _, e⟩ := x; exact Heap.lt_size e
  | frz ob u => obtain ⟨e, _⟩ := x; exact Heap.lt_size e
  | tbl ps => exact Heap.lt_size (show h.get? a = some _ from x)
  | met f y => exact Heap.lt_size (show h.get? a = some _ from x)
  | ext φ => obtain ⟨_, ⟨_, e⟩, _⟩ := x; exact Heap.lt_size e
theorem Paired.mapP {α β : Type} {F G : α → β → Prop} : ∀ {l₁ : List α} {l₂ : List β}, Paired F l₁ l₂ → (∀ a b, F a b → G a b) → Paired G l₁ l₂
  | _, _, .nil, _ => .nil
  | _, _, .cons r t, f => .cons (f _ _ r) (Paired.mapP t f)
theorem ObjOk.stay (x : ObjOk P w H h a o) (k : ∀ b u, (b = a ∨ H b = some (.own a)) → h.get? b = some u → h'.get? b = some u)
    (ho : ∀ b, H b = some (.own a) → H' b = some (.own a)) (ht : ∀ b xs, H b = some (.tup xs) → H' b = some (.tup xs)) : ObjOk P w H' h' a o := by
  induction o with
  | lst xs => obtain ⟨z, its, n, r, e⟩ := x; exact ⟨z, its, n, r, k _ _ (.inl rfl) e⟩
  | tup xs => obtain ⟨z, its, r, ob, e, c⟩ := x; exact ⟨z, its, r, ob, k _ _ (.inl rfl) e, c⟩
  | dK kvs => obtain ⟨z, y, vs, r, ob, es, ep, e, c⟩ := x; exact ⟨z, y, vs, r, ob, es, ep, k _ _ (.inl rfl) e, c⟩
  | dT kvs =>
    obtain ⟨z, y, xs, r, ob, es, ep, e, c⟩ := x
    exact ⟨z, y, xs, Paired.mapP r fun p q z => ⟨z.1, ht _ _ z.2.1, z.2.2⟩, ob, es, ep, k _ _ (.inl rfl) e, c⟩
  | set S n => obtain ⟨ob, es, ep, t, e, c⟩ := x; exact ⟨ob, es, ep, t, k _ _ (.inl rfl) e, c⟩
  | ins C dx fs =>
    obtain ⟨d, z, ne, e, mA, ⟨od, es, ep, e2, c⟩, r⟩ := x
    exact ⟨ho _ d, z, ne, k _ _ (.inl rfl) e, mA, ⟨od, es, ep, k _ _ (.inr d) e2, c⟩, r⟩
  | own y => obtain ⟨ob, e⟩ := x; exact ⟨ob, k _ _ (.inl rfl) e⟩
  | xd fs => obtain ⟨mA, ⟨od, es, ep, e, c⟩, r⟩ := x; exact ⟨mA, ⟨od, es, ep, k _ _ (.inl rfl) e, c⟩, r⟩
  | rng lo hi => obtain ⟨t, u, v, e⟩ := x; exact ⟨t, u, v, k _ _ (.inl rfl) e⟩
  | frz ob u ih => obtain ⟨e, q⟩ := x; exact ⟨k _ _ (.inl rfl) e, ih q⟩
  | tbl ps =>
    have e : h.get? a = some { cls := .none, data := .fields ps } := x
    show h'.get? a = some { cls := .none, data := .fields ps }
    exact k a _ (.inl rfl) e
  | met f y =>
    have e : h.get? a = some (PySem.W.methodObj (.ref f) (.ref y)) := x
    show h'.get? a = some (PySem.W.methodObj (.ref f) (.ref y))
    exact k a _ (.inl rfl) e
  | ext φ => obtain ⟨p, ⟨o, e⟩, st⟩ := x; exact ⟨st _ _ p fun o q => k _ _ (.inl rfl) q, ⟨o, k _ _ (.inl rfl) e⟩, st⟩
theorem HOk.lt (x : HOk P w H h) (e : H a = some o) : a < h.objs.size := (x a o e).lt
theorem HOk.fresh (x : HOk P w H h) (e : h.objs.size ≤ a) : H a = none := by
  cases q : H a with
  | none => rfl
  | some u => exact absurd (Nat.lt_of_lt_of_le (x.lt q) e) (Nat.lt_irrefl _)
theorem HOk.kept (x : HOk P w H h) (k : ∀ b u, h.get? b = some u → h'.get? b = some u) : HOk P w H h' := fun a o e =>
  (x a o e).stay (fun b u _ q => k b u q) (fun _ q => q) fun _ _ q => q
theorem HOk.laid (x : HOk P w H h) (k : ∀ b u, h.get? b = some u → h'.get? b = some u) (hp : h.objs.size ≤ a) (new : ObjOk P w (upd H a o) h' a o) : HOk P w (upd H a o) h' := fun b u e => by
  have hn := x.fresh hp
  by_cases hb : b = a
  · subst hb; rw [upd_same] at e; cases e; exact new
  · rw [upd_ne hb] at e
    exact (x b u e).stay (fun c v _ q => k c v q) (fun c q => by rw [upd_ne (ne_of_none q hn)]; exact q) fun c xs q => by rw [upd_ne (ne_of_none q hn)]; exact q
end
noncomputable def Rd (H : Hp) (a : Addr) (u : HO) : Prop := H a = some u ∨ ∃ o, H a = some (.frz o u)
theorem Rd.ok {P : Program} {w : World} {H : Hp} {h : Heap} {a : Addr} {u : HO} (r : Rd H a u) (x : HOk P w H h) : ObjOk P w H h a u := by
  rcases r with r | ⟨o, r⟩
  · exact x a u r
  · obtain ⟨_, q⟩ := x a _ r
    exact q
noncomputable def Mut : Option HO → Prop
  | some (.lst _) => True
  | some (.dK _) => True
  | some (.dT _) => True
  | some (.set _ _) => True
  | some (.ins _ _ _) => True
  | some (.ext _) => True
  | _ => False
section
variable {P : Program} {w : World} {H : Hp} {h h' : Heap} {x e : Addr} {o' : HO}
theorem HOk.write (ok : HOk P w H h) (mu : Mut (H x)) (he : e = x ∨ H e = some (.own x)) (k : ∀ b u, b ≠ e → h.get? b = some u → h'.get? b = some u) (heo : ∃ u, h'.get? e = some u)
    (new : ObjOk P w (upd H x o') h' x o') : HOk P w (upd H x o') h' := fun b u q => by
  have nown : ∀ c y, H c = some (.own y) → c ≠ x := fun c y r z => by subst z; rw [r] at mu; exact mu
  have ntup : ∀ c xs, H c = some (.tup xs) → c ≠ x := fun c xs r z => by subst z; rw [r] at mu; exact mu
  by_cases hb : b = x
  · subst hb; rw [upd_same] at q; cases q; exact new
  · rw [upd_ne hb] at q
    by_cases hbe : b = e
    · have q' : H b = some (.own x) := by
        rcases he with z | z
        · exact absurd (hbe.trans z) hb
        · rw [hbe]; exact z
      rw [q] at q'; cases q'
      obtain ⟨v, hv⟩ := heo
      exact ⟨v, by rw [hbe]; exact hv⟩
    · refine (ok b u q).stay (fun c v hc r => k c v ?_ r) (fun c r => by rw [upd_ne (nown c b r)]; exact r) fun c xs r => by rw [upd_ne (ntup c xs r)]; exact r
      rcases hc with rfl | hc
      · exact hbe
      · rintro rfl
        rcases he with z | z
        · exact nown c b hc z
        · rw [hc] at z; cases z; exact hb rfl
end
structure Un (fs ex : List Addr) (H H' : Hp) (h h' : Heap) : Prop where
  keep : ∀ b o, h.get? b = some o → H b = none → b ∉ fs → b ∉ ex → h'.get? b = some o
  slot : ∀ b o, h.get? b = some o → H b = none → b ∈ fs → b ∉ ex → ∃ sl, h'.get? b = some { o with slots := sl }
  free : ∀ b o, h.get? b = some o → H b = none → b ∉ ex → H' b = none
  there : ∀ b o, h.get? b = some o → b ∉ ex → ∃ o', h'.get? b = some o'
  tups : ∀ b xs, H b = some (.tup xs) → H' b = some (.tup xs)
  frzs : ∀ b o u, H b = some (.frz o u) → H' b = some (.frz o u)
  tbls : ∀ b ps, H b = some (.tbl ps) → ∃ more, H' b = some (.tbl (ps ++ more))
section
variable {fs fs' ex ex' : List Addr} {H H1 H2 : Hp} {h h1 h2 h' : Heap} {a x e : Addr} {o : HO}
theorem Un.any (u : Un fs ex H H1 h h1) {b : Addr} {ob : Obj} (q : h.get? b = some ob) (n : H b = none) (hx : b ∉ ex) : ∃ sl, h1.get? b = some { ob with slots := sl } := by
  by_cases hb : b ∈ fs
  · exact u.slot b ob q n hb hx
  · exact ⟨ob.slots, u.keep b ob q n hb hx⟩
theorem Un.kept (k : ∀ b u, h.get? b = some u → h'.get? b = some u) : Un fs ex H H h h' :=
  ⟨fun b ob q _ _ _ => k b ob q, fun b ob q _ _ _ => ⟨ob.slots, k b ob q⟩, fun _ _ _ n _ => n, fun b ob q _ => ⟨ob, k b ob q⟩, fun _ _ q => q, fun _ _ _ q => q, fun _ ps q => ⟨#[], by rw [q]; simp⟩⟩
theorem Un.refl : Un fs ex H H h h := Un.kept fun _ _ q => q
theorem Un.laid (k : ∀ b u, h.get? b = some u → h'.get? b = some u) (hp : h.objs.size ≤ a) (hn : H a = none) : Un fs ex H (upd H a o) h h' where
  keep := fun b u q _ _ _ => k b u q
  slot := fun b u q _ _ _ => ⟨u.slots, k b u q⟩
  free := fun b u q n _ => by rw [upd_ne (Nat.ne_of_lt (Nat.lt_of_lt_of_le (Heap.lt_size q) hp))]; exact n
  there := fun b u q _ => ⟨u, k b u q⟩
  tups := fun b xs q => by rw [upd_ne (ne_of_none q hn)]; exact q
  frzs := fun b u xs q => by rw [upd_ne (ne_of_none q hn)]; exact q
  tbls := fun b ps q => ⟨#[], by rw [upd_ne (ne_of_none q hn), q]; simp⟩
theorem Un.write (mu : Mut (H x)) (he : e = x ∨ H e = some (.own x)) (k : ∀ b u, b ≠ e → h.get? b = some u → h'.get? b = some u) (heo : ∃ u, h'.get? e = some u) : Un fs ex H (upd H x o) h h' := by
  have hx : ∀ b, H b = none → b ≠ x := fun b n z => by subst z; rw [n] at mu; exact mu
  have hb : ∀ b, H b = none → b ≠ e := fun b n z => by
    subst z
    rcases he with r | r
    · exact hx b n r
    · rw [n] at r; cases r
  have hm : ∀ b u, H b = some u → ¬ Mut (some u) → b ≠ x := fun b u q nm z => by subst z; rw [q] at mu; exact nm mu
  refine ⟨fun b u q n _ _ => k b u (hb b n) q, fun b u q n _ _ => ⟨u.slots, k b u (hb b n) q⟩, fun b u q n _ => by rw [upd_ne (hx b n)]; exact n, fun b u q _ => ?_,
    fun b xs q => by rw [upd_ne (hm b _ q fun z => z)]; exact q, fun b u xs q => by rw [upd_ne (hm b _ q fun z => z)]; exact q, fun b ps q => ⟨#[], by rw [upd_ne (hm b _ q fun z => z), q]; simp⟩⟩
  by_cases hbe : b = e
  · subst hbe; exact heo
  · exact ⟨u, k b u hbe q⟩
end
noncomputable def trk (h : Heap) (H : Hp) : List Addr := (List.range h.objs.size).filter fun a => (H a).isSome
noncomputable def hidT (h : Heap) (H : Hp) : Heap := PySem.W.hideAll h (trk h H)
theorem hidT_size (h : Heap) (H : Hp) : (hidT h H).objs.size = h.objs.size := PySem.W.hideAll_size _ _
theorem hidT_get {h : Heap} {H : Hp} {b : Addr} {o : Obj} (e : h.get? b = some o) (n : H b = none) : (hidT h H).get? b = some o :=
  PySem.W.hideAll_get _ e fun hm => by
    have q : (H b).isSome = true := (List.mem_filter.mp hm).2
    rw [n] at q; simp at q
theorem of_hidT {h : Heap} {H : Hp} {b : Addr} {o : Obj} (e : (hidT h H).get? b = some o) : h.get? b = some o ∧ H b = none := by
  have e' : h.get? b = some o := PySem.W.of_hideAll (trk h H) e
  refine ⟨e', ?_⟩
  cases q : H b with
  | none => rfl
  | some x =>
    have hm : b ∈ trk h H := List.mem_filter.mpr ⟨List.mem_range.mpr (Heap.lt_size e'), by simp [q]⟩
    have z : (hidT h H).get? b = none := PySem.W.hideAll_none (trk h H) hm
    rw [z] at e; cases e
noncomputable def allNews (g h : Heap) (L : Addr) : List (Addr × Obj) := (List.range h.objs.size).filterMap fun a => if a = L ∨ (g.get? a).isSome = true then none else (h.get? a).map fun o => (a, o)
noncomputable def rest (g h : Heap) (L d : Addr) : List (Addr × Obj) := (allNews g h L).filter fun p => decide (p.1 ≠ d)
end L2
namespace L2
open PySem PySem.Spec PyProof.Rows
structure Mod (K : PySem.W.Frag) (mg : Str → Option Value) (base : Heap) : Prop where
  kin : K.In base
  glob : base.Ns mainGlobals mg
  blt : ∃ mb, base.Ns builtinsNs mb ∧ ∀ x : Str, x ≠ "__name__" → mb x = bootBuiltins x
  nolimit : base.NoLimit
structure Cx where
  prog : Program
  w : World
  K : PySem.W.Frag
  mg : Str → Option Value
  base : Heap
  A : Around
  N : List Str
  s₀ : Shared
  H₀ : Hp
  env : Env
  outer : List Env
  stack : List Env
  ex : List Addr
  fn : Str → Bool
  calm : Bool
  pn : List (Addr × Obj)
  xe : Value → Shared → Prop
noncomputable def frs (l : List Env) : List Addr := l.filterMap (·.frame)
noncomputable abbrev Cx.fs (X : Cx) : List Addr := frs X.outer
noncomputable def Vis (sc : Scope) (x : Str) : Prop := sc.names.lookup x = some .local ∨ sc.names.lookup x = some .cell ∨ sc.names.lookup x = some .free
noncomputable def Loc (sc : Scope) (x : Str) : Prop := sc.names.lookup x = some .local ∨ sc.names.lookup x = some .cell
noncomputable def Look (env : Env) (h : Heap) (m : Str → Option Value) (x : Str) (u : Value) : Prop :=
  (env.kindOf x = some .local ∧ m x = some u) ∨ ((env.kindOf x = some .cell ∨ env.kindOf x = some .free) ∧ ∃ c, env.cells.lookup x = some c ∧ h.IsCell c (some u))
structure Cx.Ok (X : Cx) : Prop where
  mod : Mod X.K X.mg X.base
  kind : X.env.scope.kind = .function
  glob : X.env.globals = mainGlobals
  blt : X.env.builtins = builtinsNs
  above : X.s₀.heap.objs.size ≤ X.env.locals
  inj : ∀ x y c, X.env.cells.lookup x = some c → X.env.cells.lookup y = some c → x = y
  has : ∀ x, (X.env.kindOf x = some .cell ∨ X.env.kindOf x = some .free) → ∃ c, X.env.cells.lookup x = some c
  cab : ∀ x c, X.fn x = true → X.env.cells.lookup x = some c → X.s₀.heap.objs.size ≤ c
  hd : X.calm = true → X.A.handled = none
  frames : X.A.frames = some X.stack
  stk : X.stack = X.outer ∨ (X.stack = X.env :: X.outer ∧ X.env.frame = some X.env.locals)
  exf : ∀ b ∈ X.ex, b ≠ X.env.locals ∧ ∀ x c, X.env.cells.lookup x = some c → c ≠ b
  bs : ∀ b o, X.base.get? b = some o → X.s₀.heap.get? b = some o ∧ X.H₀ b = none
  bsz : X.base.objs.size ≤ X.s₀.heap.objs.size
  noex : ∀ b o, X.base.get? b = some o → b ∉ X.ex
  exfs : ∀ b ∈ X.ex, b ∉ X.fs
  funs : X.s₀.heap.FunFrames X.base X.outer
  frf : ∀ b ∈ X.fs, X.H₀ b = none
structure Inv (X : Cx) (pins : List (Addr × Obj)) (σ : List (Option V)) (H : Hp) (s : Shared) : Prop where
  ok : X.Ok
  os : s.os = X.s₀.os
  bare : AllBare s.gens
  base : Un X.fs X.ex X.H₀ H X.s₀.heap s.heap
  loc : ∃ m, s.heap.Ns X.env.locals m ∧ ∀ (i : Nat) (x : Str) (v : V), X.N[i]? = some x → σ[i]? = some (some v) → Vis X.env.scope x → ∃ u, RelV v u ∧ Look X.env s.heap m x u
  cell : ∀ x c, X.env.cells.lookup x = some c → ∃ v, s.heap.IsCell c v
  free : H X.env.locals = none
  freeC : ∀ x c, X.env.cells.lookup x = some c → H c = none
  pin : ∀ p ∈ X.pn ++ pins, s.heap.get? p.1 = some p.2 ∧ H p.1 = none ∧ p.1 ≠ X.env.locals ∧ p.1 ∉ X.fs ∧ ∀ v, p.2.data ≠ .cell v
  hok : HOk X.prog X.w H s.heap
  len : σ.length = X.N.length
section
variable {X : Cx} {pins : List (Addr × Obj)} {σ : List (Option V)} {H H' : Hp} {s : Shared} {h' : Heap}
theorem Cx.Ok.nofr (ok : X.Ok) {b : Addr} {o : Obj} (e : X.base.get? b = some o) : b ∉ X.fs := fun hb => by
  have := (ok.funs.mem hb).1
  rw [e] at this; cases this
theorem Inv.bs (I : Inv X pins σ H s) : ∀ b o, X.base.get? b = some o → s.heap.get? b = some o ∧ H b = none := fun b o e =>
  ⟨I.base.keep b o (I.ok.bs b o e).1 (I.ok.bs b o e).2 (I.ok.nofr e) (I.ok.noex b o e), I.base.free b o (I.ok.bs b o e).1 (I.ok.bs b o e).2 (I.ok.noex b o e)⟩
theorem Inv.bk (I : Inv X pins σ H s) : ∀ b o, X.base.get? b = some o → s.heap.get? b = some o := fun b o e => (I.bs b o e).1
theorem Inv.mod (I : Inv X pins σ H s) : Mod X.K X.mg X.base := I.ok.mod
theorem Inv.kIn (I : Inv X pins σ H s) : X.K.In s.heap := I.ok.mod.kin.keeps I.bk
theorem Inv.lt (I : Inv X pins σ H s) : X.env.locals < s.heap.objs.size := let ⟨_, hn, _⟩ := I.loc; hn.lt
theorem Inv.sz (I : Inv X pins σ H s) : X.s₀.heap.objs.size ≤ s.heap.objs.size := Nat.le_trans I.ok.above (Nat.le_of_lt I.lt)
theorem Inv.nofs (I : Inv X pins σ H s) {a : Addr} (h : s.heap.objs.size ≤ a) : a ∉ X.fs := fun hb => by
  obtain ⟨_, o, ho, _⟩ := I.ok.funs.mem hb
  exact absurd (Nat.lt_of_lt_of_le (Heap.lt_size ho) (Nat.le_trans I.sz h)) (Nat.lt_irrefl _)
theorem Inv.cne (I : Inv X pins σ H s) : ∀ x c, X.env.cells.lookup x = some c → c ≠ X.env.locals := fun x c e z => by
  obtain ⟨v, o, ho, hd⟩ := I.cell x c e
  obtain ⟨m, ⟨o', es, ep, ho', hd', _⟩, _⟩ := I.loc
  rw [z, ho'] at ho; cases ho; rw [hd'] at hd; cases hd
theorem Inv.funs (I : Inv X pins σ H s) : s.heap.FunFrames X.base X.outer := by
  have all : ∀ (l : List Env), (∀ b ∈ frs l, b ∈ X.fs) → X.s₀.heap.FunFrames X.base l → s.heap.FunFrames X.base l := by
    intro l
    induction l with
    | nil => intro _ _; trivial
    | cons env r ih =>
      intro hs hl
      obtain ⟨hk, ⟨L, o, hf, hn, ho, hd⟩, hr⟩ := hl
      have hL : L ∈ X.fs := hs L (by unfold frs; rw [List.filterMap_cons, hf]; exact List.mem_cons_self)
      obtain ⟨sl, e⟩ := I.base.slot L o ho (I.ok.frf L hL) hL fun z => I.ok.exfs L z hL
      exact ⟨hk, ⟨L, _, hf, hn, e, hd⟩, ih (fun b hb => hs b (by unfold frs; rw [List.filterMap_cons, hf]; exact List.mem_cons_of_mem _ hb)) hr⟩
  exact all X.outer (fun _ hb => hb) I.ok.funs
theorem Inv.stack (I : Inv X pins σ H s) : s.heap.FunFrames X.base X.stack := by
  rcases I.ok.stk with e | ⟨e, hf⟩
  · rw [e]; exact I.funs
  · rw [e]
    obtain ⟨m, hn, _⟩ := I.loc
    refine .cons (by rw [I.ok.kind]; decide) hf hn ?_ I.funs
    exact Heap.get?_none_of_le (Nat.le_trans I.ok.bsz I.ok.above)
theorem Inv.stkSub (I : Inv X pins σ H s) : ∀ b ∈ frs X.stack, b ∈ X.env.locals :: X.fs := fun b hb => by
  rcases I.ok.stk with e | ⟨e, hf⟩
  · rw [e] at hb; exact List.mem_cons_of_mem _ hb
  · rw [e] at hb
    unfold frs at hb
    rw [List.filterMap_cons, hf] at hb
    exact hb
theorem Inv.stkFree (I : Inv X pins σ H s) : ∀ b ∈ frs X.stack, H b = none := fun b hb => by
  rcases List.mem_cons.mp (I.stkSub b hb) with e | hb
  · rw [e]; exact I.free
  · obtain ⟨_, o, ho, _⟩ := I.ok.funs.mem hb
    exact I.base.free b o ho (I.ok.frf b hb) fun z => I.ok.exfs b z hb
theorem Inv.step {g' : Array GenState} {t' : Nat} {d' : Drawn} {ch : List Addr} (I : Inv X pins σ H s)
    (hch : ∀ b ∈ ch, (b ∈ X.ex ∨ X.s₀.heap.objs.size ≤ b) ∧ b ≠ X.env.locals ∧ (∀ x c, X.env.cells.lookup x = some c → c ≠ b) ∧ ∀ p ∈ X.pn ++ pins, p.1 ≠ b)
    (keep : ∀ b o, b ≠ X.env.locals → b ∉ X.fs → b ∉ ch → s.heap.get? b = some o → H b = none → h'.get? b = some o)
    (slot : ∀ b o, b ≠ X.env.locals → b ∈ X.fs → b ∉ ch → s.heap.get? b = some o → H b = none → ∃ sl, h'.get? b = some { o with slots := sl }) (free : ∀ b o, b ∉ ch → s.heap.get? b = some o → H b = none → H' b = none)
    (there : ∀ b o, b ∉ ch → s.heap.get? b = some o → ∃ o', h'.get? b = some o')
    (tups : ∀ b xs, H b = some (.tup xs) → H' b = some (.tup xs)) (frzs : ∀ b o u, H b = some (.frz o u) → H' b = some (.frz o u)) (tbls : ∀ b ps, H b = some (.tbl ps) → ∃ more, H' b = some (.tbl (ps ++ more)))
    (ns : ∀ m, s.heap.Ns X.env.locals m → h'.Ns X.env.locals m) (hok : HOk X.prog X.w H' h') (hg : AllBare g') :
    Inv X pins σ H' { s with heap := h', gens := g', drawn := d', toks := t' } := by
  have neL : ∀ b o, X.s₀.heap.get? b = some o → b ≠ X.env.locals := fun b o e => Nat.ne_of_lt (Nat.lt_of_lt_of_le (Heap.lt_size e) I.ok.above)
  have neC : ∀ b o, X.s₀.heap.get? b = some o → b ∉ X.ex → b ∉ ch := fun b o e hx hb => by
    rcases (hch b hb).1 with z | z
    · exact hx z
    · exact absurd (Nat.lt_of_lt_of_le (Heap.lt_size e) z) (Nat.lt_irrefl _)
  have cellK : ∀ x c, X.env.cells.lookup x = some c → ∀ v, s.heap.IsCell c v → h'.IsCell c v := fun x c e v ⟨o, ho, hd⟩ => by
    have nch : c ∉ ch := fun z => (hch c z).2.2.1 x c e rfl
    by_cases hc : c ∈ X.fs
    · obtain ⟨sl, q⟩ := slot c o (I.cne x c e) hc nch ho (I.freeC x c e)
      exact ⟨_, q, hd⟩
    · exact ⟨o, keep c o (I.cne x c e) hc nch ho (I.freeC x c e), hd⟩
  refine ⟨I.ok, I.os, hg, ⟨fun b o e n hb hx => ?_, fun b o e n hb hx => ?_, fun b o e n hx => ?_, fun b o e hx => ?_, fun b xs e => tups b xs (I.base.tups b xs e), fun b o xs e => frzs b o xs (I.base.frzs b o xs e), fun b ps e => ?_⟩, ?_, fun x c e => ?_, ?_, fun x c e => ?_, fun p hp => ?_, hok, I.len⟩
  · exact keep b o (neL b o e) hb (neC b o e hx) (I.base.keep b o e n hb hx) (I.base.free b o e n hx)
  · obtain ⟨sl, e1⟩ := I.base.slot b o e n hb hx
    obtain ⟨sl', e2⟩ := slot b _ (neL b o e) hb (neC b o e hx) e1 (I.base.free b o e n hx)
    exact ⟨sl', e2⟩
  · obtain ⟨o', e1⟩ := I.base.there b o e hx
    exact free b o' (neC b o e hx) e1 (I.base.free b o e n hx)
  · obtain ⟨o', e1⟩ := I.base.there b o e hx
    exact there b o' (neC b o e hx) e1
  · obtain ⟨m1, e1⟩ := I.base.tbls b ps e
    obtain ⟨m2, e2⟩ := tbls b _ e1
    exact ⟨m1 ++ m2, by rw [e2, Array.append_assoc]⟩
  · obtain ⟨m, hn, hl⟩ := I.loc
    refine ⟨m, ns m hn, fun i x v e1 e2 e3 => ?_⟩
    obtain ⟨u, r, l⟩ := hl i x v e1 e2 e3
    refine ⟨u, r, ?_⟩
    rcases l with l | ⟨k, c, e, z⟩
    · exact .inl l
    · exact .inr ⟨k, c, e, cellK x c e _ z⟩
  · obtain ⟨v, z⟩ := I.cell x c e
    exact ⟨v, cellK x c e v z⟩
  · obtain ⟨m, ⟨o, _, _, ho, _⟩, _⟩ := I.loc
    exact free _ o (fun z => (hch _ z).2.1 rfl) ho I.free
  · obtain ⟨v, o, ho, hd⟩ := I.cell x c e
    exact free c o (fun z => (hch c z).2.2.1 x c e rfl) ho (I.freeC x c e)
  · obtain ⟨e, n, ne, nf, d⟩ := I.pin p hp
    have nch : p.1 ∉ ch := fun z => (hch p.1 z).2.2.2 p hp rfl
    exact ⟨keep p.1 p.2 ne nf nch e n, free p.1 p.2 nch e n, ne, nf, d⟩
theorem Inv.un {t' : Nat} (I : Inv X pins σ H s) (u : Un X.fs [] H H' s.heap h') (hok : HOk X.prog X.w H' h') : Inv X pins σ H' { s with heap := h', toks := t' } := by
  obtain ⟨m, ⟨o, es, ep, ho, r⟩, _⟩ := id I.loc
  obtain ⟨sl, hL⟩ := u.any ho I.free (by simp)
  exact I.step (g' := s.gens) (d' := s.drawn) (ch := []) (fun _ z => nomatch z) (fun b o _ hb _ e n => u.keep b o e n hb (by simp)) (fun b o _ hb _ e n => u.slot b o e n hb (by simp)) (fun b o _ e n => u.free b o e n (by simp)) (fun b o _ e => u.there b o e (by simp)) u.tups u.frzs u.tbls (fun m' hm => by
    obtain ⟨o', es', ep', ho', r'⟩ := hm
    rw [ho] at ho'; cases ho'
    exact ⟨_, es', ep', hL, r'⟩) hok I.bare
theorem Inv.call {g' : Array GenState} {t' : Nat} {d' : Drawn} {ch : List Addr} (I : Inv X pins σ H s) (u : Un (frs X.stack) ch H H' s.heap h') (hok : HOk X.prog X.w H' h') (hg : AllBare g')
    (hch : ∀ b ∈ ch, (b ∈ X.ex ∨ X.s₀.heap.objs.size ≤ b) ∧ b ≠ X.env.locals ∧ (∀ x c, X.env.cells.lookup x = some c → c ≠ b) ∧ ∀ p ∈ X.pn ++ pins, p.1 ≠ b) :
    Inv X pins σ H' { s with heap := h', gens := g', drawn := d', toks := t' } := by
  obtain ⟨m, ⟨o, es, ep, ho, r⟩, _⟩ := id I.loc
  obtain ⟨sl, hL⟩ := u.any ho I.free fun z => (hch _ z).2.1 rfl
  exact I.step (ch := ch) hch (fun b o hL hb hc e n => u.keep b o e n (fun z => (List.mem_cons.mp (I.stkSub b z)).elim hL hb) hc) (fun b o _ _ hc e n => u.any e n hc) (fun b o hc e n => u.free b o e n hc) (fun b o hc e => u.there b o e hc) u.tups u.frzs u.tbls (fun m' hm => by
    obtain ⟨o', es', ep', ho', r'⟩ := hm
    rw [ho] at ho'; cases ho'
    exact ⟨_, es', ep', hL, r'⟩) hok hg
theorem Inv.turned {t' : Nat} {it : Addr} (I : Inv X pins σ H s) (k : ∀ b o, b ≠ it → s.heap.get? b = some o → h'.get? b = some o) (hn : H it = none) (hL : it ≠ X.env.locals)
    (h1 : it ∈ X.ex ∨ X.s₀.heap.objs.size ≤ it) (h2 : ∀ x c, X.env.cells.lookup x = some c → c ≠ it) (h3 : ∀ p ∈ X.pn ++ pins, p.1 ≠ it) : Inv X pins σ H { s with heap := h', toks := t' } := by
  have nit : ∀ b u, H b = some u → b ≠ it := fun b u e z => by rw [z, hn] at e; cases e
  refine I.step (g' := s.gens) (d' := s.drawn) (ch := [it]) (fun b hb => ?_) (fun b o _ _ hc e _ => k b o (fun z => hc (by simp [z])) e) (fun b o _ _ hc e _ => ⟨o.slots, k b o (fun z => hc (by simp [z])) e⟩) (fun _ _ _ _ n => n)
    (fun b o hc e => ⟨o, k b o (fun z => hc (by simp [z])) e⟩) (fun _ _ e => e) (fun _ _ _ e => e) (fun b ps e => ⟨#[], by rw [e]; simp⟩) (fun m hm => ?_) (fun b u e => ?_) I.bare
  · have e : b = it := by simpa using hb
    subst e
    exact ⟨h1, hL, h2, h3⟩
  · obtain ⟨o, es, ep, ho, r⟩ := hm
    exact ⟨o, es, ep, k _ o (Ne.symm hL) ho, r⟩
  · refine (I.hok b u e).stay (fun c v hc q => k c v ?_ q) (fun _ q => q) fun _ _ q => q
    rcases hc with z | z
    · rw [z]; exact nit b u e
    · exact nit c _ z
theorem Inv.tok (I : Inv X pins σ H s) (t : Nat) : Inv X pins σ H { s with toks := t } := I.un (h' := s.heap) (t' := t) Un.refl I.hok
theorem Inv.kept {t' : Nat} (I : Inv X pins σ H s) (k : ∀ b u, s.heap.get? b = some u → h'.get? b = some u) : Inv X pins σ H { s with heap := h', toks := t' } := I.un (Un.kept k) (I.hok.kept k)
theorem Inv.laid {a : Addr} {o : HO} {t' : Nat} (I : Inv X pins σ H s) (k : ∀ b u, s.heap.get? b = some u → h'.get? b = some u) (hp : s.heap.objs.size ≤ a) (new : ObjOk X.prog X.w (upd H a o) h' a o) :
    Inv X pins σ (upd H a o) { s with heap := h', toks := t' } := I.un (Un.laid k hp (I.hok.fresh hp)) (I.hok.laid k hp new)
theorem Inv.write {x e : Addr} {o : HO} {t' : Nat} (I : Inv X pins σ H s) (mu : Mut (H x)) (he : e = x ∨ H e = some (.own x)) (k : ∀ b u, b ≠ e → s.heap.get? b = some u → h'.get? b = some u) (heo : ∃ u, h'.get? e = some u)
    (new : ObjOk X.prog X.w (upd H x o) h' x o) : Inv X pins σ (upd H x o) { s with heap := h', toks := t' } := I.un (Un.write mu he k heo) (I.hok.write mu he k heo new)
theorem Inv.pins_of {pins' : List (Addr × Obj)} (I : Inv X pins σ H s) (h : ∀ p ∈ pins', s.heap.get? p.1 = some p.2 ∧ H p.1 = none ∧ p.1 ≠ X.env.locals ∧ p.1 ∉ X.fs ∧ ∀ v, p.2.data ≠ .cell v) : Inv X pins' σ H s :=
  ⟨I.ok, I.os, I.bare, I.base, I.loc, I.cell, I.free, I.freeC, fun p hp => (List.mem_append.mp hp).elim (fun z => I.pin p (List.mem_append_left _ z)) (h p), I.hok, I.len⟩
theorem nodup_ix {N : List Str} (hN : N.Nodup) {i j : Nat} {x : Str} (a : N[i]? = some x) (b : N[j]? = some x) : i = j := by
  obtain ⟨h1, e1⟩ := List.getElem?_eq_some_iff.mp a
  obtain ⟨h2, e2⟩ := List.getElem?_eq_some_iff.mp b
  exact (List.getElem_inj hN).mp (e1.trans e2.symm)
theorem store_ok2 {M : Model} {A : Around} {E : Value → Shared → Prop} {i : Nat} {x : Str} {v : V} {u : Value} {Q : Unit → Shared → Prop} (I : Inv X pins σ H s) (hN : X.N.Nodup) (hi : X.N[i]? = some x) (hx : Loc X.env.scope x) (r : RelV v u)
    (h : ∀ s', Inv X pins (σ.set i (some v)) H s' → (∃ a, Heap.SameBut a s.heap s'.heap ∧ (a = X.env.locals ∨ X.env.cells.lookup x = some a)) → Q () s') (hf : X.fn x = true ∨ X.env.scope.names.lookup x = some .local := by first | exact .inl rfl | exact .inr rfl | assumption) : wpAny M A (storeName X.env x u) Q E s := by
  obtain ⟨m, hn, hl⟩ := id I.loc
  have hcls : (X.env.scope.kind == .class || (X.env.scope.kind == .module && X.env.locals != X.env.globals)) = false := by rw [I.ok.kind]; rfl
  have hiσ : i < σ.length := by rw [I.len]; exact (List.getElem?_eq_some_iff.mp hi).1
  have cne := I.cne
  have tracked : ∀ {a : Addr} {h' : Heap}, (∃ o, s.heap.get? a = some o ∧ H a = none) → Heap.SameBut a s.heap h' → HOk X.prog X.w H h' := fun {a h'} ha hs b ob e => by
    obtain ⟨_, _, hfree⟩ := ha
    refine (I.hok b ob e).stay (fun c w' hc q => (hs.2 c ?_).trans q) (fun _ q => q) fun _ _ q => q
    rintro rfl
    rcases hc with rfl | hc
    · rw [hfree] at e; cases e
    · rw [hfree] at hc; cases hc
  rcases hx with hk | hk
  · refine wpAny_storeName_local hk hn (fun h' hn' hs => ?_) hcls
    obtain ⟨oL, _, _, hoL, _⟩ := id hn
    refine h _ ⟨I.ok, I.os, I.bare, ⟨fun b o e n hb hx => ?_, fun b o e n hb hx => ?_, I.base.free, fun b o e hx => ?_, I.base.tups, I.base.frzs, I.base.tbls⟩, ⟨_, hn', fun j y v' e1 e2 e3 => ?_⟩, fun y c e => ?_, I.free, I.freeC, fun p hp => ?_, tracked ⟨oL, hoL, I.free⟩ hs, by simpa using I.len⟩ ⟨_, hs, .inl rfl⟩
    · exact (hs.2 b (Nat.ne_of_lt (Nat.lt_of_lt_of_le (Heap.lt_size e) I.ok.above))).trans (I.base.keep b o e n hb hx)
    · obtain ⟨sl, e1⟩ := I.base.slot b o e n hb hx
      exact ⟨sl, (hs.2 b (Nat.ne_of_lt (Nat.lt_of_lt_of_le (Heap.lt_size e) I.ok.above))).trans e1⟩
    · obtain ⟨o', e1⟩ := I.base.there b o e hx
      exact ⟨o', (hs.2 b (Nat.ne_of_lt (Nat.lt_of_lt_of_le (Heap.lt_size e) I.ok.above))).trans e1⟩
    · by_cases hj : j = i
      · subst hj
        rw [hi] at e1; cases e1
        rw [List.getElem?_set_self hiσ] at e2
        cases e2
        exact ⟨u, r, .inl ⟨hk, by simp⟩⟩
      · rw [List.getElem?_set_ne (Ne.symm hj)] at e2
        obtain ⟨u', r', q⟩ := hl j y v' e1 e2 e3
        refine ⟨u', r', ?_⟩
        rcases q with ⟨k, e⟩ | ⟨k, c, e, z⟩
        · refine .inl ⟨k, ?_⟩
          have : y ≠ x := fun e => hj (nodup_ix hN e1 (e ▸ hi))
          simp [this, e]
        · exact .inr ⟨k, c, e, z.sameBut hs (cne y c e)⟩
    · obtain ⟨w', z⟩ := I.cell y c e
      exact ⟨w', z.sameBut hs (cne y c e)⟩
    · obtain ⟨e, n, ne, nf, d⟩ := I.pin p hp
      exact ⟨(hs.2 p.1 ne).trans e, n, ne, nf, d⟩
  · have hfn : X.fn x = true := by
      rcases hf with z | z
      · exact z
      · rw [z] at hk; cases hk
    obtain ⟨c, hc⟩ := I.ok.has x (.inl hk)
    obtain ⟨w', z⟩ := I.cell x c hc
    refine wpAny_storeName_cell I.ok.kind hk hc z (fun h' hc' hs => ?_)
    obtain ⟨oc, hoc, hocd⟩ := id z
    refine h { s with heap := h' } ⟨I.ok, I.os, I.bare, ⟨fun b o e n hb hx => ?_, fun b o e n hb hx => ?_, I.base.free, fun b o e hx => ?_, I.base.tups, I.base.frzs, I.base.tbls⟩, ⟨m, hn.sameBut hs (Ne.symm (cne x c hc)), fun j y v' e1 e2 e3 => ?_⟩, fun y c' e => ?_, I.free, I.freeC, fun p hp => ?_, tracked ⟨oc, hoc, I.freeC x c hc⟩ hs, by simpa using I.len⟩ ⟨c, hs, .inr hc⟩
    · exact (hs.2 b (Nat.ne_of_lt (Nat.lt_of_lt_of_le (Heap.lt_size e) (I.ok.cab x c hfn hc)))).trans (I.base.keep b o e n hb hx)
    · obtain ⟨sl, e1⟩ := I.base.slot b o e n hb hx
      exact ⟨sl, (hs.2 b (Nat.ne_of_lt (Nat.lt_of_lt_of_le (Heap.lt_size e) (I.ok.cab x c hfn hc)))).trans e1⟩
    · obtain ⟨o', e1⟩ := I.base.there b o e hx
      exact ⟨o', (hs.2 b (Nat.ne_of_lt (Nat.lt_of_lt_of_le (Heap.lt_size e) (I.ok.cab x c hfn hc)))).trans e1⟩
    · by_cases hj : j = i
      · subst hj
        rw [hi] at e1; cases e1
        rw [List.getElem?_set_self hiσ] at e2
        cases e2
        exact ⟨u, r, .inr ⟨.inl hk, c, hc, hc'⟩⟩
      · rw [List.getElem?_set_ne (Ne.symm hj)] at e2
        obtain ⟨u', r', q⟩ := hl j y v' e1 e2 e3
        refine ⟨u', r', ?_⟩
        rcases q with q | ⟨k, c', e, z'⟩
        · exact .inl q
        · refine .inr ⟨k, c', e, z'.sameBut hs ?_⟩
          rintro rfl
          exact hj (nodup_ix hN e1 (I.ok.inj _ _ _ e hc ▸ hi))
    · by_cases hcc : c' = c
      · subst hcc; exact ⟨_, hc'⟩
      · obtain ⟨w2, z2⟩ := I.cell y c' e
        exact ⟨w2, z2.sameBut hs hcc⟩
    · obtain ⟨e, n, ne, nf, d⟩ := I.pin p hp
      refine ⟨(hs.2 p.1 ?_).trans e, n, ne, nf, d⟩
      intro q
      rw [q, hoc] at e
      have q' : oc = p.2 := Option.some.inj e
      exact d w' (by rw [← q']; exact hocd)
theorem store_ok {M : Model} {A : Around} {E : Value → Shared → Prop} {i : Nat} {x : Str} {v : V} {u : Value} {Q : Unit → Shared → Prop} (I : Inv X pins σ H s) (hN : X.N.Nodup) (hi : X.N[i]? = some x) (hx : Loc X.env.scope x) (r : RelV v u)
    (h : ∀ s', Inv X pins (σ.set i (some v)) H s' → Q () s') (hf : X.fn x = true ∨ X.env.scope.names.lookup x = some .local := by first | exact .inl rfl | exact .inr rfl | assumption) : wpAny M A (storeName X.env x u) Q E s :=
  store_ok2 I hN hi hx r (fun s' I' _ => h s' I') hf
theorem Inv.call' {s' : Shared} {ch : List Addr} (I : Inv X pins σ H s) (ho : s'.os = s.os) (u : Un (frs X.stack) ch H H' s.heap s'.heap) (hok : HOk X.prog X.w H' s'.heap) (hg : AllBare s'.gens)
    (hch : ∀ b ∈ ch, (b ∈ X.ex ∨ X.s₀.heap.objs.size ≤ b) ∧ b ≠ X.env.locals ∧ (∀ x c, X.env.cells.lookup x = some c → c ≠ b) ∧ ∀ p ∈ X.pn ++ pins, p.1 ≠ b) : Inv X pins σ H' s' := by
  obtain ⟨h', g', d', t', o'⟩ := s'
  have e : o' = s.os := ho
  subst e
  exact I.call (g' := g') (t' := t') (d' := d') u hok hg hch
end
noncomputable abbrev XK := Value → Option Addr → Hp → Prop
noncomputable abbrev St := List (Option V)
noncomputable abbrev VK := V → Hp → Prop
noncomputable abbrev TE := St → Hp → VK → Prop
noncomputable abbrev TT := St → Hp → (Bool → Hp → Prop) → Prop
noncomputable abbrev TA := St → Hp → (List V → Hp → Prop) → Prop
structure Ends where
  nx : St → Hp → Prop
  rt : VK
  bk : St → Hp → Prop := fun _ _ => False
  ct : St → Hp → Prop := fun _ _ => False
noncomputable abbrev TS := Ends → St → Hp → Prop
noncomputable def EP (X : Cx) (pins : List (Addr × Obj)) (σ : St) (Q : VK) (u : Value) (s' : Shared) : Prop := ∃ v H', Inv X pins σ H' s' ∧ RelV v u ∧ Q v H'
noncomputable def TP (X : Cx) (pins : List (Addr × Obj)) (σ : St) (Q : Bool → Hp → Prop) (b : Bool) (s' : Shared) : Prop := ∃ H', Inv X pins σ H' s' ∧ Q b H'
noncomputable def AP (X : Cx) (pins : List (Addr × Obj)) (σ : St) (Q : List V → Hp → Prop) (us : List Value) (s' : Shared) : Prop := ∃ vs H', Inv X pins σ H' s' ∧ Vals vs us ∧ Q vs H'
noncomputable def SP (X : Cx) (pins : List (Addr × Obj)) (D : Ends) (f : Flow) (s' : Shared) : Prop :=
  match f with
  | .next => ∃ σ' H', Inv X pins σ' H' s' ∧ D.nx σ' H'
  | .brk => ∃ σ' H', Inv X pins σ' H' s' ∧ D.bk σ' H'
  | .cont => ∃ σ' H', Inv X pins σ' H' s' ∧ D.ct σ' H'
  | .ret u => ∃ v σ' H', Inv X pins σ' H' s' ∧ RelV v u ∧ D.rt v H'
noncomputable def PE (X : Cx) (e : Expr) (t : TE) : Prop :=
  ∀ (pins : List (Addr × Obj)) (s : Shared) (σ : St) (H : Hp) (Q : VK), Inv X pins σ H s → t σ H Q → wpAny (model X.prog X.w) X.A (eval e X.env) (EP X pins σ Q) X.xe s
noncomputable def PT (X : Cx) (e : Expr) (t : TT) : Prop :=
  ∀ (pins : List (Addr × Obj)) (s : Shared) (σ : St) (H : Hp) (Q : Bool → Hp → Prop), Inv X pins σ H s → t σ H Q → wpAny (model X.prog X.w) X.A (isTrue e X.env (eval e X.env)) (TP X pins σ Q) X.xe s
noncomputable def PW (X : Cx) (e : Expr) (t : TT) : Prop :=
  ∀ (whole : Sem Value) (pins : List (Addr × Obj)) (s : Shared) (σ : St) (H : Hp) (Q : Bool → Hp → Prop), Inv X pins σ H s → t σ H Q → wpAny (model X.prog X.w) X.A (isTrue e X.env whole) (TP X pins σ Q) X.xe s
theorem PW.pt {X : Cx} {e : Expr} {t : TT} (h : PW X e t) : PT X e t := h _
noncomputable def PA (X : Cx) (es : List Expr) (t : TA) : Prop :=
  ∀ (pos : Pos) (pins : List (Addr × Obj)) (s : Shared) (σ : St) (H : Hp) (Q : List V → Hp → Prop), Inv X pins σ H s → t σ H Q → wpAny (model X.prog X.w) X.A (spliced (backTo pos (starEach es X.env))) (AP X pins σ Q) X.xe s
noncomputable def PS (X : Cx) (st : Stmt) (t : TS) : Prop :=
  ∀ (pins : List (Addr × Obj)) (s : Shared) (σ : St) (H : Hp) (D : Ends), Inv X pins σ H s → t D σ H → wpAny (model X.prog X.w) X.A (exec st X.env) (SP X pins D) X.xe s
noncomputable def PSs (X : Cx) (st : List Stmt) (t : TS) : Prop :=
  ∀ (pins : List (Addr × Obj)) (s : Shared) (σ : St) (H : Hp) (D : Ends), Inv X pins σ H s → t D σ H → wpAny (model X.prog X.w) X.A (execs st X.env) (SP X pins D) X.xe s
theorem thn {α : Type} {t : Sem α} {Q Q' : α → Shared → Prop} {M : Model} {A : Around} {E : Value → Shared → Prop} {s : Shared} (h : wpAny M A t Q E s) (hQ : ∀ a s, Q a s → Q' a s) : wpAny M A t Q' E s := wpAny_mono h hQ fun _ _ x => x
end L2
namespace L2
open PySem PySem.Spec PyProof.Rows
section
variable {X : Cx}
noncomputable def tVar (i : Nat) : TE := fun σ H Q => ∃ v, σ[i]? = some (some v) ∧ Q v H
noncomputable def tC (v : V) : TE := fun _ H Q => Q v H
theorem pe_var {i : Nat} {x : Str} {pos : Pos} (hN : X.N[i]? = some x) (hv : Vis X.env.scope x) (hd : (x == ("__debug__" : Str)) = false := by decide) (hcd : (x == ("__classdict__" : Str)) = false := by decide) : PE X (.Name x pos) (tVar i) := by
  intro pins s σ H Q I h
  obtain ⟨v, e, h⟩ := h
  obtain ⟨m, hn, hl⟩ := I.loc
  obtain ⟨u, r, l⟩ := hl i x v hN e hv
  have fin : EP X pins σ Q u s := ⟨v, H, I, r, h⟩
  rcases l with ⟨hk, hm⟩ | ⟨hk, c, hc, hcell⟩
  · exact wpAny_Name (wpAny_loadName_local I.ok.kind hk hn hm fin) hd
  · rcases hk with hk | hk
    · exact wpAny_Name (wpAny_loadName_cell I.ok.kind hk hc hcell fin) hd
    · exact wpAny_Name (wpAny_loadName_free I.ok.kind hk hc hcell fin hcd) hd
theorem pe_int {i j pos} : PE X (.Constant (.int i) j pos) (tC (.int i)) := fun _ _ _ H _ I h => wpAny_Constant_int ⟨.int i, H, I.tok _, ⟨_, rfl⟩, h⟩
theorem pe_bl {b j pos} : PE X (.Constant (.bool b) j pos) (tC (.bl b)) := fun _ _ _ H _ I h => Constant_bool ⟨.bl b, H, I, rfl, h⟩
theorem pe_str {x j pos} : PE X (.Constant (.str x) j pos) (tC (.str x)) := fun _ _ _ H _ I h => Calls.Constant_str ⟨.str x, H, I.tok _, ⟨_, rfl⟩, h⟩
noncomputable def Gl (X : Cx) (x : Str) : Prop := X.env.kindOf x = some .globalImplicit
theorem ld_glob {E : Value → Shared → Prop} {pins : List (Addr × Obj)} {s : Shared} {σ : St} {H : Hp} {x : Str} {u : Value} {pos : Pos} {Q : Value → Shared → Prop} (I : Inv X pins σ H s) (hg : Gl X x) (hm : X.mg x = some u) (h : Q u s)
    (hd : (x == ("__debug__" : Str)) = false := by decide) : wpAny (model X.prog X.w) X.A (eval (.Name x pos) X.env) Q E s :=
  Calls.Name_function_global I.ok.kind hg (Calls.loadGlobal_global (by rw [I.ok.glob]; exact I.mod.glob.keeps I.bk) hm h) hd
theorem ld_blt {E : Value → Shared → Prop} {pins : List (Addr × Obj)} {s : Shared} {σ : St} {H : Hp} {x : Str} {u : Value} {pos : Pos} {Q : Value → Shared → Prop} (I : Inv X pins σ H s) (hg : Gl X x) (hm : X.mg x = none) (hv : bootBuiltins x = some u) (h : Q u s)
    (hn : x ≠ "__name__" := by decide) (hd : (x == ("__debug__" : Str)) = false := by decide) : wpAny (model X.prog X.w) X.A (eval (.Name x pos) X.env) Q E s := by
  obtain ⟨mb, h1, h2⟩ := I.mod.blt
  exact Calls.Name_function_global I.ok.kind hg (Calls.loadGlobal_builtin (by rw [I.ok.glob]; exact I.mod.glob.keeps I.bk) hm (by rw [I.ok.blt]; exact h1.keeps I.bk) ((h2 x hn).trans hv) h) hd
theorem pe_bltn {x : Str} {v : V} {u : Value} {pos : Pos} (hg : Gl X x) (hm : X.mg x = none) (hv : bootBuiltins x = some u) (r : RelV v u) (hn : x ≠ "__name__" := by decide) (hd : (x == ("__debug__" : Str)) = false := by decide) : PE X (.Name x pos) (tC v) :=
  fun _ _ _ H _ I h => ld_blt I hg hm hv ⟨v, H, I, r, h⟩ hn hd
noncomputable def t2I (ta tb : TE) (k : Int → Int → Hp → Prop) : St → Hp → Prop := fun σ H => ta σ H fun x H1 => tb σ H1 fun y H2 => ∃ i j, x = .int i ∧ y = .int j ∧ k i j H2
noncomputable def tAdd (ta tb : TE) : TE := fun σ H Q => t2I ta tb (fun i j H2 => Q (.int (i + j)) H2) σ H
noncomputable def tSub (ta tb : TE) : TE := fun σ H Q => t2I ta tb (fun i j H2 => Q (.int (i - j)) H2) σ H
noncomputable def tMul (ta tb : TE) : TE := fun σ H Q => t2I ta tb (fun i j H2 => (-(2 ^ 64) < i ∧ i < 2 ^ 64) ∧ Q (.int (i * j)) H2) σ H
variable {a b : Expr} {ta tb : TE} {pos : Pos}
noncomputable def PC (X : Cx) (op : CmpOp) (a b : Expr) (t : TE) : Prop :=
  ∀ (pins : List (Addr × Obj)) (s : Shared) (σ : St) (H : Hp) (Q : VK), Inv X pins σ H s → t σ H Q →
    wpAny (model X.prog X.w) X.A (eval a X.env) (fun v s₁ => wpAny (model X.prog X.w) X.A (eval b X.env) (fun u s₂ => wpAny (model X.prog X.w) X.A (compareOp op v u) (EP X pins σ Q) X.xe s₂) X.xe s₁) X.xe s
noncomputable def tCmp (p : Int → Int → Bool) (ta tb : TE) : TE := fun σ H Q => t2I ta tb (fun i j H2 => Q (.bl (p i j)) H2) σ H
noncomputable abbrev tLt : TE → TE → TE := tCmp fun i j => decide (i < j)
noncomputable abbrev tLe : TE → TE → TE := tCmp fun i j => decide (i ≤ j)
noncomputable abbrev tGt : TE → TE → TE := tCmp fun i j => decide (j < i)
noncomputable abbrev tGe : TE → TE → TE := tCmp fun i j => decide (j ≤ i)
noncomputable abbrev tEqI : TE → TE → TE := tCmp fun i j => decide (i = j)
noncomputable abbrev tNeI : TE → TE → TE := tCmp fun i j => !decide (i = j)
noncomputable def tIsN (ta : TE) : TE := fun σ H Q => ta σ H fun x H1 => Q (.bl (decide (x = .non))) H1
noncomputable def tNotN (ta : TE) : TE := fun σ H Q => ta σ H fun x H1 => Q (.bl (!decide (x = .non))) H1
noncomputable def tB (t : TE) : TT := fun σ H Q => t σ H fun x H1 => ∃ c, x = .bl c ∧ Q c H1
theorem pt_val {e : Expr} {t : TE} (h : PE X e t) (he : ∀ whole, isTrue e X.env whole = (do let v ← whole; standAt e.pos; holding [v] (truthy v)) := by intro _; rfl) : PT X e (tB t) := by
  intro pins s σ H Q I hw
  refine isTrue_plain (thn (h pins s σ H _ I hw) fun v s1 ⟨x, H1, I1, r1, q1⟩ => ?_) (he _)
  obtain ⟨d, rfl, q⟩ := q1
  cases r1
  exact wpAny_truthy_bool ⟨H1, I1, q⟩
variable {tA tB' : TT} {rest : List Expr}
noncomputable def tAnd (t u : TT) : TT := fun σ H Q => t σ H fun c H1 => if c = true then u σ H1 Q else Q false H1
noncomputable def tOr (t u : TT) : TT := fun σ H Q => t σ H fun c H1 => if c = true then Q true H1 else u σ H1 Q
noncomputable def tNot (t : TT) : TT := fun σ H Q => t σ H fun c H1 => Q (!c) H1
theorem pw_and1 (ha : PT X a tA) : PW X (.BoolOp .And [a] pos) tA := by
  intro wh pins s σ H Q I h
  refine isTrue_and (thn (ha pins s σ H Q I h) fun c s1 e => ?_)
  cases c with
  | true => exact isTrue_and_nil e
  | false => exact e
theorem pw_or1 (ha : PT X a tA) : PW X (.BoolOp .Or [a] pos) tA := by
  intro wh pins s σ H Q I h
  refine isTrue_or (thn (ha pins s σ H Q I h) fun c s1 e => ?_)
  cases c with
  | false => exact isTrue_or_nil e
  | true => exact e
theorem pw_and (ha : PT X a tA) (hb : PW X (.BoolOp .And (b :: rest) pos) tB') : PW X (.BoolOp .And (a :: b :: rest) pos) (tAnd tA tB') := by
  intro wh pins s σ H Q I h
  refine isTrue_and (thn (ha pins s σ H _ I h) fun c s1 ⟨H1, I1, q1⟩ => ?_)
  cases c with
  | true => exact hb wh pins s1 σ H1 Q I1 q1
  | false => exact ⟨H1, I1, q1⟩
theorem pw_or (ha : PT X a tA) (hb : PW X (.BoolOp .Or (b :: rest) pos) tB') : PW X (.BoolOp .Or (a :: b :: rest) pos) (tOr tA tB') := by
  intro wh pins s σ H Q I h
  refine isTrue_or (thn (ha pins s σ H _ I h) fun c s1 ⟨H1, I1, q1⟩ => ?_)
  cases c with
  | true => exact ⟨H1, I1, q1⟩
  | false => exact hb wh pins s1 σ H1 Q I1 q1
theorem pt_not (ha : PT X a tA) : PT X (.UnaryOp .Not a pos) (tNot tA) := by
  intro pins s σ H Q I h
  exact isTrue_not (ha pins s σ H (fun c H1 => Q (!c) H1) I h)
noncomputable def tAndV (ta tb : TE) : TE := fun σ H Q => ta σ H fun x H1 => ∃ c, x = .bl c ∧ if c = true then tb σ H1 Q else Q (.bl false) H1
noncomputable def tOrV (ta tb : TE) : TE := fun σ H Q => ta σ H fun x H1 => ∃ c, x = .bl c ∧ if c = true then Q (.bl true) H1 else tb σ H1 Q
noncomputable def tNotV (ta : TE) : TE := fun σ H Q => ta σ H fun x H1 => ∃ c, x = .bl c ∧ Q (.bl (!c)) H1
theorem pe_one {op} {t : TE} (h : PE X a t) : PE X (.BoolOp op [a] pos) t := fun pins s σ H Q I hw => BoolOp_one (h pins s σ H Q I hw)
theorem pe_and (ha : PE X a ta) (hb : PE X (.BoolOp .And (b :: rest) pos) tb) : PE X (.BoolOp .And (a :: b :: rest) pos) (tAndV ta tb) := by
  intro pins s σ H Q I h
  refine BoolOp_and (thn (ha pins s σ H _ I h) fun v s1 ⟨x, H1, I1, r1, q1⟩ => ?_)
  obtain ⟨c, rfl, q1⟩ := q1
  cases r1
  refine wpAny_truthy_bool ?_
  cases c with
  | true => exact hb pins s1 σ H1 Q I1 q1
  | false => exact ⟨.bl false, H1, I1, rfl, q1⟩
theorem pe_or (ha : PE X a ta) (hb : PE X (.BoolOp .Or (b :: rest) pos) tb) : PE X (.BoolOp .Or (a :: b :: rest) pos) (tOrV ta tb) := by
  intro pins s σ H Q I h
  refine BoolOp_or (thn (ha pins s σ H _ I h) fun v s1 ⟨x, H1, I1, r1, q1⟩ => ?_)
  obtain ⟨c, rfl, q1⟩ := q1
  cases r1
  refine wpAny_truthy_bool ?_
  cases c with
  | false => exact hb pins s1 σ H1 Q I1 q1
  | true => exact ⟨.bl true, H1, I1, rfl, q1⟩
theorem pe_not (ha : PE X a ta) : PE X (.UnaryOp .Not a pos) (tNotV ta) := by
  intro pins s σ H Q I h
  refine UnaryOp_ (thn (ha pins s σ H _ I h) fun v s1 ⟨x, H1, I1, r1, q1⟩ => ?_)
  obtain ⟨c, rfl, q1⟩ := q1
  cases r1
  exact not_of (wpAny_truthy_bool ⟨.bl (!c), H1, I1, rfl, q1⟩)
noncomputable def tIf (t : TT) (ta tb : TE) : TE := fun σ H Q => t σ H fun c H1 => if c = true then ta σ H1 Q else tb σ H1 Q
end
end L2
namespace L2
open PySem PySem.Spec PyProof.Rows
noncomputable def SqL (K : PySem.W.Frag) (H : Hp) (a : Addr) (xs : List V) : Prop :=
  Rd H a (.lst xs) ∨
    ∃ (o : Obj) (its : Array Value) (n : Nat), K.lookup a = some o ∧ o.cls = .type "list" ∧ o.dict = none ∧ o.data = .seq its n ∧ its.size ≤ sizeLine ∧ Vals xs its.toList
noncomputable def SqT (K : PySem.W.Frag) (H : Hp) (a : Addr) (xs : List V) : Prop :=
  Rd H a (.tup xs) ∨
    ∃ (o : Obj) (its : Array Value) (n : Nat), K.lookup a = some o ∧ o.cls = .type "tuple" ∧ o.data = .seq its n ∧ its.size ≤ sizeLine ∧ Vals xs its.toList
noncomputable def absV : Value → Option V
  | .none => some .non
  | .bool b => some (.bl b)
  | .int i _ => some (.int i)
  | .str x _ => some (.str x)
  | .bytes b _ => some (.byt b)
  | .float b _ => some (.flt b)
  | .ref a => some (.ref a)
  | .type n => some (.ty n)
  | _ => none
theorem RelV.abs {x : V} {u : Value} (r : RelV x u) : absV u = some x := by
  cases x with
  | non => cases r; rfl
  | bl _ => cases r; rfl
  | int _ => obtain ⟨t, rfl⟩ := r; rfl
  | str _ => obtain ⟨t, rfl⟩ := r; rfl
  | byt _ => obtain ⟨t, rfl⟩ := r; rfl
  | flt _ => obtain ⟨t, rfl⟩ := r; rfl
  | ref _ => cases r; rfl
  | ty _ => cases r; rfl
theorem RelV.inj {x y : V} {u : Value} (r : RelV x u) (q : RelV y u) : x = y := Option.some.inj (r.abs.symm.trans q.abs)
theorem Vals.inj : ∀ {xs ys : List V} {us : List Value}, Vals xs us → Vals ys us → xs = ys
  | _, _, _, .nil, .nil => rfl
  | _, _, _, .cons r t, .cons r' t' => by rw [r.inj r', Vals.inj t t']
section
variable {X : Cx} {pins : List (Addr × Obj)} {σ : St} {H : Hp} {s : Shared} {a : Addr} {xs ys : List V}
theorem SqL.of {K : PySem.W.Frag} (h : H a = some (.lst xs)) : SqL K H a xs := .inl (.inl h)
theorem SqT.of {K : PySem.W.Frag} (h : H a = some (.tup xs)) : SqT K H a xs := .inl (.inl h)
theorem Inv.list (I : Inv X pins σ H s) (h : SqL X.K H a xs) : ∃ its : List Value, Vals xs its ∧ PlainL s.heap a its.toArray ∧ xs.length ≤ sizeLine := by
  rcases h with h | ⟨o, its, n, hk, hc, hd, hs, hz, r⟩
  · obtain ⟨z, its, n, r, e⟩ := h.ok I.hok
    exact ⟨its, r, ⟨_, n, e, rfl, rfl, rfl⟩, z⟩
  · refine ⟨its.toList, r, ⟨o, n, I.kIn a o hk, hc, hd, by simpa using hs⟩, ?_⟩
    have e := r.length
    simp only [Array.length_toList] at e
    omega
theorem Inv.tuple (I : Inv X pins σ H s) (h : SqT X.K H a xs) : ∃ its : List Value, Vals xs its ∧ IsTup s.heap a its.toArray ∧ xs.length ≤ sizeLine := by
  rcases h with h | ⟨o, its, n, hk, hc, hs, hz, r⟩
  · obtain ⟨z, its, r, p⟩ := h.ok I.hok
    exact ⟨its, r, p, z⟩
  · refine ⟨its.toList, r, ⟨o, I.kIn a o hk, hc, n, by simpa using hs⟩, ?_⟩
    have e := r.length
    simp only [Array.length_toList] at e
    omega
theorem Inv.list_inj (I : Inv X pins σ H s) (h : SqL X.K H a xs) (h' : SqL X.K H a ys) : xs = ys := by
  obtain ⟨its, r, ⟨o, n, e, _, _, d⟩, _⟩ := I.list h
  obtain ⟨its', r', ⟨o', n', e', _, _, d'⟩, _⟩ := I.list h'
  rw [e] at e'; cases e'
  rw [d] at d'
  injection d' with d1 _
  have : its = its' := by simpa using congrArg Array.toList d1
  subst this
  exact r.inj r'
theorem Inv.tuple_inj (I : Inv X pins σ H s) (h : SqT X.K H a xs) (h' : SqT X.K H a ys) : xs = ys := by
  obtain ⟨its, r, ⟨o, e, _, n, d⟩, _⟩ := I.tuple h
  obtain ⟨its', r', ⟨o', e', _, n', d'⟩, _⟩ := I.tuple h'
  rw [e] at e'; cases e'
  rw [d] at d'
  injection d' with d1 _
  have : its = its' := by simpa using congrArg Array.toList d1
  subst this
  exact r.inj r'
end
noncomputable abbrev Cx.wish (X : Cx) (E : Value → Shared → Prop) : Cx := { X with xe := E }
noncomputable abbrev Cx.nox (X : Cx) : Cx := X.wish fun _ _ => False
section
variable {X : Cx} {pins : List (Addr × Obj)} {σ : St} {H : Hp} {s : Shared} {E : Value → Shared → Prop}
end
section
variable {X : Cx} {st : Stmt} {rest : List Stmt} {t u : TS} {e : Expr} {te : TE} {pos : Pos}
noncomputable def tNext : TS := fun D σ H => D.nx σ H
noncomputable def tSeq (t u : TS) : TS := fun D σ H => t { D with nx := u D } σ H
theorem pss_nil : PSs X [] tNext := fun _ _ σ H _ I h => wpAny_execs_nil ⟨σ, H, I, h⟩
theorem pss_cons (h1 : PS X st t) (h2 : PSs X rest u) : PSs X (st :: rest) (tSeq t u) := by
  intro pins s σ H D I h
  refine wpAny_execs_cons (thn (h1 pins s σ H { D with nx := u D } I h) fun f s1 q => ?_)
  cases f with
  | next =>
    obtain ⟨σ', H', I', q⟩ := q
    exact h2 pins s1 σ' H' D I' q
  | ret v => exact q
  | brk => exact q
  | cont => exact q
noncomputable def tBreak : TS := fun D σ H => D.bk σ H
noncomputable def tCont : TS := fun D σ H => D.ct σ H
theorem Inv.quiet {pins : List (Addr × Obj)} {σ : St} {H : Hp} {s : Shared} (I : Inv X pins σ H s) : interactive X.env = false := by simp [interactive, I.ok.kind]
noncomputable def tDrop (te : TE) : TS := fun D σ H => te σ H fun _ H1 => D.nx σ H1
theorem ps_expr (he : PE X e te) (hs : swapsWith e none pos.line X.env = pure false := by rfl) : PS X (.Expr e pos) (tDrop te) := by
  intro pins s σ H D I h
  exact wpAny_Expr_any (thn (he pins s σ H _ I h) fun v s1 ⟨x, H1, I1, r1, q1⟩ => ⟨σ, H1, I1, q1⟩) I.quiet hs
noncomputable def tRet (te : TE) : TS := fun D σ H => te σ H D.rt
theorem ps_ret (he : PE X e te) : PS X (.Return (some e) pos) (tRet te) := by
  intro pins s σ H D I h
  exact wpAny_Return_some (thn (he pins s σ H _ I h) fun v s1 ⟨x, H1, I1, r1, q1⟩ => ⟨x, σ, H1, I1, r1, q1⟩)
noncomputable def tRetN : TS := fun D _ H => D.rt .non H
noncomputable def tIfS (c : TT) (t u : TS) : TS := fun D σ H => c σ H fun b H1 => if b = true then t D σ H1 else u D σ H1
theorem ps_if {c : Expr} {a b : List Stmt} {tc : TT} (hc : PT X c tc) (ha : PSs X a t) (hb : PSs X b u) : PS X (.If c a b pos) (tIfS tc t u) := by
  intro pins s σ H D I h
  refine wpAny_If (thn (hc pins s σ H _ I h) fun d s1 ⟨H1, I1, q1⟩ => ?_)
  cases d with
  | true => exact ha pins s1 σ H1 D I1 q1
  | false => exact hb pins s1 σ H1 D I1 q1
noncomputable def tNever : TS := fun _ _ _ => False
end
noncomputable abbrev TG := V → St → Hp → (St → Hp → Prop) → Prop
noncomputable abbrev TGs := List V → St → Hp → (St → Hp → Prop) → Prop
noncomputable def PG (X : Cx) (target : Expr) (t : TG) : Prop :=
  ∀ (pins : List (Addr × Obj)) (s : Shared) (σ : St) (H : Hp) (v : V) (u : Value) (Q : St → Hp → Prop), Inv X pins σ H s → RelV v u → t v σ H Q →
    wpAny (model X.prog X.w) X.A (assign target X.env u) (fun _ s' => ∃ σ' H', Inv X pins σ' H' s' ∧ Q σ' H') X.xe s
noncomputable def PGs (X : Cx) (ts : List Expr) (t : TGs) : Prop :=
  ∀ (pins : List (Addr × Obj)) (s : Shared) (σ : St) (H : Hp) (vs : List V) (us : List Value) (Q : St → Hp → Prop), Inv X pins σ H s → Vals vs us → t vs σ H Q →
    wpAny (model X.prog X.w) X.A (assignInOrder ((assignEach ts X.env).map (·.2)) us) (fun _ s' => ∃ σ' H', Inv X pins σ' H' s' ∧ Q σ' H') X.xe s
noncomputable abbrev TSet := V → V → V → Hp → (Hp → Prop) → Prop
noncomputable def PSet (X : Cx) (t : TSet) : Prop :=
  ∀ (pins : List (Addr × Obj)) (s : Shared) (σ : St) (H : Hp) (o i v : V) (ov iv u : Value) (Q : Hp → Prop), Inv X pins σ H s → RelV o ov → RelV i iv → RelV v u → t o i v H Q →
    wpAny (model X.prog X.w) X.A (setItem ov iv u) (fun _ s' => ∃ H', Inv X pins σ H' s' ∧ Q H') X.xe s
noncomputable abbrev TIp := V → V → Hp → VK → Prop
noncomputable def PIp (X : Cx) (op : Operator) (t : TIp) : Prop :=
  ∀ (pins : List (Addr × Obj)) (s : Shared) (σ : St) (H : Hp) (x y : V) (v u : Value) (Q : VK), Inv X pins σ H s → RelV x v → RelV y u → t x y H Q →
    wpAny (model X.prog X.w) X.A (inplaceOp op v u) (EP X pins σ Q) X.xe s
section
variable {X : Cx} {pos : Pos}
noncomputable def gName (i : Nat) : TG := fun v σ H Q => Q (σ.set i (some v)) H
theorem pg_name {i : Nat} {x : Str} (hN : X.N.Nodup) (hi : X.N[i]? = some x) (hx : Loc X.env.scope x) (hf : X.fn x = true ∨ X.env.scope.names.lookup x = some .local := by first | exact .inl rfl | exact .inr rfl | assumption) : PG X (.Name x pos) (gName i) := by
  intro pins s σ H v u Q I r h
  exact wpAny_assign_Name (store_ok I hN hi hx r (fun s' I' => ⟨_, H, I', h⟩) hf)
noncomputable def gNil : TGs := fun vs σ H Q => vs = [] ∧ Q σ H
noncomputable def gCons (t : TG) (u : TGs) : TGs := fun vs σ H Q => ∃ v r, vs = v :: r ∧ t v σ H fun σ' H' => u r σ' H' Q
theorem pgs_nil : PGs X [] gNil := by
  intro pins s σ H vs us Q I r h
  obtain ⟨e, h⟩ := h
  subst e
  cases r
  exact assignInOrder_nil ⟨σ, H, I, h⟩
theorem pgs_cons {e : Expr} {es : List Expr} {t : TG} {u : TGs} (h1 : PG X e t) (h2 : PGs X es u)
    (hs : (assignEach (e :: es) X.env).map (·.2) = assign e X.env :: (assignEach es X.env).map (·.2) := by rfl) : PGs X (e :: es) (gCons t u) := by
  intro pins s σ H vs us Q I r h
  obtain ⟨v, vr, e1, h⟩ := h
  subst e1
  cases r with
  | cons r rr =>
    rw [hs]
    refine assignInOrder_cons (thn (h1 pins s σ H _ _ _ I r h) fun _ s1 ⟨σ1, H1, I1, q1⟩ => ?_)
    exact h2 pins s1 σ1 H1 _ _ Q I1 rr q1
noncomputable def gTup (K : PySem.W.Frag) (n : Nat) (t : TGs) : TG := fun v σ H Q => ∃ a xs, v = .ref a ∧ SqT K H a xs ∧ xs.length = n ∧ t xs σ H Q
theorem pg_tup {es : List Expr} {k : Nat} {t : TGs} {n : Nat} (hc : X.calm = true) (h : PGs X es t)
    (hn : (assignEach es X.env).length = n := by rfl) (hst : (assignEach es X.env).findIdx? (·.1) = none := by rfl) : PG X (.Tuple es k pos) (gTup X.K n t) := by
  intro pins s σ H v u Q I r hw
  obtain ⟨a, xs, e1, hq, hl, hw⟩ := hw
  subst e1
  cases r
  obtain ⟨its, rv, ht, hz⟩ := I.tuple hq
  refine assign_Tuple_tuple (I.ok.hd hc) ht (by simp [hn, ← hl, rv.length]) hst fun h' hx => ?_
  have I1 : Inv X pins σ H { s with heap := h' } := I.kept (t' := s.toks) fun b o e => hx b o (Nat.ne_of_lt (Heap.lt_size e)) e
  exact h pins _ σ H xs _ Q I1 (by simpa using rv) hw
noncomputable def gSub (to ti : TE) (t : TSet) : TG := fun v σ H Q => to σ H fun o H1 => ti σ H1 fun i H2 => t o i v H2 fun H3 => Q σ H3
theorem pg_sub {o i : Expr} {to ti : TE} {t : TSet} (ho : PE X o to) (hi : PE X i ti) (hs : PSet X t)
    (ha : ∀ v, assign (.Subscript o i pos) X.env v = (do
      let ov ← holding [v] (eval o X.env)
      let iv ← holding [v, ov] (eval i X.env)
      standAt pos
      holding [v, ov, iv] (setItem ov iv v)
      release [v, ov, iv] []) := by intro _; rfl) : PG X (.Subscript o i pos) (gSub to ti t) := by
  intro pins s σ H v u Q I r h
  rw [ha]
  refine wpAny_bind (wpAny_holding (thn (ho pins s σ H _ I h) fun ov s1 ⟨x, H1, I1, r1, q1⟩ => ?_))
  refine wpAny_bind (wpAny_holding (thn (hi pins s1 σ H1 _ I1 q1) fun iv s2 ⟨y, H2, I2, r2, q2⟩ => ?_))
  refine wpAny_bind (wpAny_standAt (wpAny_bind (wpAny_holding (thn (hs pins s2 σ H2 x y v ov iv u _ I2 r1 r2 r q2) fun _ s3 ⟨H3, I3, q3⟩ => ?_))))
  exact wpAny_release ⟨σ, H3, I3, q3⟩
noncomputable def tAsg (te : TE) (g : TG) : TS := fun D σ H => te σ H fun x H1 => g x σ H1 D.nx
theorem ps_asg {tg e : Expr} {te : TE} {g : TG} (he : PE X e te) (hg : PG X tg g) (hs : swapsWithSole [tg] e pos.line X.env = pure false := by rfl) (hw : swappedStores [tg] e X.env = pure none := by rfl)
    (h1 : (assignEach [tg] X.env).map (·.2) = [assign tg X.env] := by rfl) : PS X (.Assign [tg] e pos) (tAsg te g) := by
  intro pins s σ H D I h
  refine wpAny_Assign_stores (thn (he pins s σ H _ I h) fun v s1 ⟨x, H1, I1, r1, q1⟩ => ?_) hs hw
  rw [h1]
  exact thn (hg pins s1 σ H1 x v _ I1 r1 q1) fun _ s2 q => q
theorem ps_set {i : Nat} {x : Str} {e : Expr} {te : TE} {pos' : Pos} (hN : X.N.Nodup) (hi : X.N[i]? = some x) (hx : Loc X.env.scope x) (he : PE X e te) (hs : swapsWith e (some (.Name x pos')) pos.line X.env = pure false := by rfl) (hf : X.fn x = true ∨ X.env.scope.names.lookup x = some .local := by first | exact .inl rfl | exact .inr rfl | assumption) :
    PS X (.Assign [.Name x pos'] e pos) (tAsg te (gName i)) := by
  intro pins s σ H D I h
  refine wpAny_Assign_Name (thn (he pins s σ H _ I h) fun v s1 ⟨y, H1, I1, r1, q1⟩ => ?_) hs
  exact store_ok I1 hN hi hx r1 (fun s2 I2 => ⟨_, H1, I2, q1⟩) hf
noncomputable def tPar (i j : Nat) (ta : TA) : TS := fun D σ H => ta σ H fun vs H1 => ∃ v w, vs = [v, w] ∧ D.nx ((σ.set i (some v)).set j (some w)) H1
noncomputable def tAug (i : Nat) (te : TE) (ti : TIp) : TS := fun D σ H => ∃ x, σ[i]? = some (some x) ∧ te σ H fun y H1 => ti x y H1 fun z H2 => D.nx (σ.set i (some z)) H2
noncomputable def tAugS (to ti te : TE) (tget : V → V → Hp → VK → Prop) (tip : TIp) (tset : TSet) : TS := fun D σ H => to σ H fun o H1 => ti σ H1 fun i H2 => tget o i H2 fun x H3 => te σ H3 fun y H4 => tip x y H4 fun z H5 => tset o i z H5 fun H6 => D.nx σ H6
noncomputable def PGet (X : Cx) (t : V → V → Hp → VK → Prop) : Prop :=
  ∀ (pins : List (Addr × Obj)) (s : Shared) (σ : St) (H : Hp) (o i : V) (ov iv : Value) (Q : VK), Inv X pins σ H s → RelV o ov → RelV i iv → t o i H Q →
    wpAny (model X.prog X.w) X.A (getItem ov iv) (EP X pins σ Q) X.xe s
noncomputable def ipI (f : Int → Int → Int) : TIp := fun x y H Q => ∃ i j, x = .int i ∧ y = .int j ∧ Q (.int (f i j)) H
end
section
variable {X : Cx} {pos : Pos}
noncomputable def tWhile (c : TT) (tb : TS) : TS := fun D σ H => ∃ W : Nat → St → Hp → Prop, (∃ m, W m σ H) ∧ ∀ m σ H, W m σ H →
  c σ H fun b H1 => if b = true then ∃ N : St → Hp → Prop, (∀ σ' H', N σ' H' → ∃ m', m' < m ∧ W m' σ' H') ∧ tb { D with nx := N, ct := N, bk := D.nx } σ H1 else D.nx σ H1
theorem ps_while {c : Expr} {body : List Stmt} {tc : TT} {tb : TS} (hp : PassesOwn (model X.prog X.w) X.A X.env X.xe) (hc : PT X c tc) (hb : PSs X body tb) : PS X (.While c body [] pos) (tWhile tc tb) := by
  intro pins s σ H D I h
  obtain ⟨W, ⟨m0, w0⟩, turn⟩ := h
  refine wpAny_While (codeAny_whileLoop (fun n s' => ∃ σ' H', Inv X pins σ' H' s' ∧ W n σ' H') ?_ m0 ⟨σ, H, I, w0⟩)
  rintro n s1 ⟨σ1, H1, I1, w1⟩
  refine wpAny_passesOwn hp (thn (hc pins s1 σ1 H1 _ I1 (turn n σ1 H1 w1)) fun b s2 ⟨H2, I2, q2⟩ => ?_)
  cases b with
  | true =>
    obtain ⟨N, hN, q2⟩ := q2
    rw [if_pos rfl]
    refine wpAny_passesOwn hp (thn (hb pins s2 σ1 H2 _ I2 q2) fun f s3 q3 => ?_)
    cases f with
    | next =>
      obtain ⟨σ3, H3, I3, n3⟩ := q3
      obtain ⟨m', hm, w3⟩ := hN σ3 H3 n3
      exact ⟨m', hm, σ3, H3, I3, w3⟩
    | cont =>
      obtain ⟨σ3, H3, I3, n3⟩ := q3
      obtain ⟨m', hm, w3⟩ := hN σ3 H3 n3
      exact ⟨m', hm, σ3, H3, I3, w3⟩
    | brk => exact q3
    | ret v => exact q3
  | false =>
    rw [if_neg Bool.false_ne_true]
    exact wpAny_execs_nil ⟨σ1, H2, I2, q2⟩
end
structure It where
  go : Nat → Hp → Prop
  yld : Nat → Hp → V → Hp → Prop
  stop : Nat → Hp → Prop
noncomputable def FpOk (X : Cx) (pins : List (Addr × Obj)) (H : Hp) (b : Addr) : Prop :=
  H b = none ∧ b ≠ X.env.locals ∧ b ∉ X.fs ∧ (b ∈ X.ex ∨ X.s₀.heap.objs.size ≤ b) ∧ (∀ x c, X.env.cells.lookup x = some c → c ≠ b) ∧ ∀ p ∈ X.pn ++ pins, p.1 ≠ b
theorem Inv.fpOk {X : Cx} {pins : List (Addr × Obj)} {σ : St} {H H' : Hp} {s : Shared} {b : Addr} (I : Inv X pins σ H s) (hb : s.heap.objs.size ≤ b) (hn : H' b = none) : FpOk X pins H' b := by
  refine ⟨hn, Nat.ne_of_gt (Nat.lt_of_lt_of_le I.lt hb), I.nofs hb, .inr (Nat.le_trans I.sz hb), fun x c e z => ?_, fun p hp z => ?_⟩
  · obtain ⟨v, q⟩ := I.cell x c e
    exact absurd (Nat.lt_of_lt_of_le q.lt (by rw [z]; exact hb)) (Nat.lt_irrefl _)
  · exact absurd (Nat.lt_of_lt_of_le (Heap.lt_size (I.pin p hp).1) (by rw [z]; exact hb)) (Nat.lt_irrefl _)
structure Turn (P : Program) (w : World) (K : PySem.W.Frag) (tg : Expr) (J : It) (fp : List Addr) (it : Addr) (tn : Nat → Heap → Prop) : Prop where
  mem : it ∈ fp
  obj : ∀ i h, tn i h → ∀ b ∈ fp, ∃ o, h.get? b = some o ∧ ∀ v, o.data ≠ .cell v
  keep : ∀ i h h', tn i h → (∀ b ∈ fp, ∀ o, h.get? b = some o → h'.get? b = some o) → tn i h'
  item : ∀ (X : Cx), X.prog = P → X.w = w → X.K = K → X.calm = true → ∀ (i : Nat) (pins : List (Addr × Obj)) (s : Shared) (σ : St) (H : Hp) (E : Value → Shared → Prop), Inv X pins σ H s → (∀ b ∈ fp, FpOk X pins H b) → tn i s.heap → J.go i H →
    wpAny (model P w) X.A (pyNext (.ref it)) (fun r s1 => ∃ u, r = some u ∧
      wpAny (model P w) X.A (letOwnedTupleGo tg (.ref it) u) (fun _ s2 => ∃ x H', Inv X pins σ H' s2 ∧ RelV x u ∧ J.yld i H x H' ∧ tn (i + 1) s2.heap ∧ ∀ b ∈ fp, H' b = none) E s1) E s
  done : ∀ (X : Cx), X.prog = P → X.w = w → X.K = K → X.calm = true → ∀ (i : Nat) (pins : List (Addr × Obj)) (s : Shared) (σ : St) (H : Hp) (E : Value → Shared → Prop), Inv X pins σ H s → (∀ b ∈ fp, FpOk X pins H b) → tn i s.heap → J.stop i H →
    wpAny (model P w) X.A (pyNext (.ref it)) (fun r s1 => r = none ∧ Inv X pins σ H s1) E s
  self : ∀ (A : Around) (i : Nat) (s : Shared) (Q : Value → Shared → Prop) (E : Value → Shared → Prop), tn i s.heap → Q (.ref it) s → wpAny (model P w) A (pyIter (.ref it)) Q E s
noncomputable abbrev TI := St → Hp → (It → Hp → Prop) → Prop
noncomputable def PIE (X : Cx) (pins : List (Addr × Obj)) (σ : St) (tg : Expr) (R : It → Hp → Prop) (itv : Value) (s2 : Shared) : Prop :=
  ∃ (it : Addr) (fp : List Addr) (tn : Nat → Heap → Prop) (J : It) (H' : Hp), itv = .ref it ∧ Inv X pins σ H' s2 ∧ Turn X.prog X.w X.K tg J fp it tn ∧ tn 0 s2.heap ∧ (∀ b ∈ fp, FpOk X pins H' b) ∧ R J H'
noncomputable def PI (X : Cx) (tg iter : Expr) (wi : TI) : Prop :=
  ∀ (pins : List (Addr × Obj)) (s : Shared) (σ : St) (H : Hp) (R : It → Hp → Prop), Inv X pins σ H s → wi σ H R →
    wpAny (model X.prog X.w) X.A (eval iter X.env) (fun v s1 => wpAny (model X.prog X.w) X.A (pyIter v) (PIE X pins σ tg R) X.xe s1) X.xe s
theorem go_of {M : Model} {A : Around} {E : Value → Shared → Prop} {s : Shared} {tg : Expr} {it : Addr} {u : Value} {o : Obj} {n : String} {vs : Array Value} {Q : Unit → Shared → Prop} (ho : s.heap.get? it = some o) (hc : o.cls = .type n) (hd : o.data = .fields vs)
    (hn : ["enumerate", "zip", "dict_itemiterator", "dict_reverseitemiterator", "odict_iterator", "itertools.zip_longest", "itertools.pairwise"].contains n = false) (hQ : Q () s) : wpAny M A (letOwnedTupleGo tg (.ref it) u) Q E s := by
  unfold letOwnedTupleGo
  cases tg <;> first
    | exact wpAny_pure hQ
    | (cases u <;> first
        | exact wpAny_pure hQ
        | (refine wpAny_bind (wpAny_load ho ?_)
           rw [hc, hd]
           show wpAny M A (if (["enumerate", "zip", "dict_itemiterator", "dict_reverseitemiterator", "odict_iterator", "itertools.zip_longest", "itertools.pairwise"].contains n && vs[0]? == some (rawInt _)) = true then _ else _) Q E s
           rw [if_neg (by intro h; rw [hn, Bool.false_and] at h; cases h)]
           exact wpAny_pure hQ))
noncomputable def Itl (K : PySem.W.Frag) (a : Addr) : It :=
  ⟨fun i H => ∃ xs x, SqL K H a xs ∧ xs[i]? = some x, fun i H x H' => H' = H ∧ ∀ xs, SqL K H a xs → xs[i]? = some x, fun i H => ∃ xs, SqL K H a xs ∧ xs.length ≤ i⟩
noncomputable def Itt (K : PySem.W.Frag) (a : Addr) : It :=
  ⟨fun i H => ∃ xs x, SqT K H a xs ∧ xs[i]? = some x, fun i H x H' => H' = H ∧ ∀ xs, SqT K H a xs → xs[i]? = some x, fun i H => ∃ xs, SqT K H a xs ∧ xs.length ≤ i⟩
noncomputable def Itr (lo : Int) (n : Nat) : It := ⟨fun i _ => i < n, fun i H x H' => H' = H ∧ x = .int (lo + i), fun i _ => n ≤ i⟩
theorem turn_list {P : Program} {w : World} {K : PySem.W.Frag} {tg : Expr} (a it : Addr) : Turn P w K tg (Itl K a) [it] it (fun i h => h.IsListIter it a i) where
  mem := by simp
  obj := fun i h st b hb => by
    have e : b = it := by simpa using hb
    subst e
    obtain ⟨o, e, c, d⟩ := st
    exact ⟨o, e, fun v z => by rw [d] at z; cases z⟩
  keep := fun i h h' st k => st.at fun o e => k it (by simp) o e
  item := by
    intro X hP hw hK hc i pins s σ H E I hf st hg
    subst hP hw hK
    obtain ⟨xs, x, hq, hx⟩ := hg
    obtain ⟨its, rv, p, hz⟩ := I.list hq
    obtain ⟨u, hu, ru⟩ := rv.get hx
    obtain ⟨f0, f1, f2, f3, f4, f5⟩ := hf it (by simp)
    refine wpAny_pyNext_list_item st p.isList (x := u) (by simpa using hu) fun h' st' sb => ?_
    have I1 : Inv X pins σ H { s with heap := h' } := I.turned (t' := s.toks) (fun b o hb e => (sb.2 b hb).trans e) f0 f1 f3 f4 f5
    obtain ⟨o, e, c, d⟩ := id st'
    exact ⟨u, rfl, go_of (s := { s with heap := h' }) e c d (by decide) ⟨x, H, I1, ru, ⟨rfl, fun ys hy => by rw [I.list_inj hy hq]; exact hx⟩, st', fun b hb => (hf b hb).1⟩⟩
  done := by
    intro X hP hw hK hc i pins s σ H E I hf st hg
    subst hP hw hK
    obtain ⟨xs, hq, hx⟩ := hg
    obtain ⟨its, rv, p, hz⟩ := I.list hq
    obtain ⟨f0, f1, f2, f3, f4, f5⟩ := hf it (by simp)
    have hl := rv.length
    exact wpAny_pyNext_list_end (I.ok.hd hc) st p.isList (by simp; omega) fun h' eb => ⟨rfl, I.turned (t' := s.toks) (fun b o hb e => eb b o hb e) f0 f1 f3 f4 f5⟩
  self := fun _ _ _ _ _ st h => wpAny_pyIter_listiter st h
theorem turn_tuple {P : Program} {w : World} {K : PySem.W.Frag} {tg : Expr} (a it : Addr) : Turn P w K tg (Itt K a) [it] it (fun i h => h.IsTupleIter it a i) where
  mem := by simp
  obj := fun i h st b hb => by
    have e : b = it := by simpa using hb
    subst e
    obtain ⟨o, e, c, d⟩ := st
    exact ⟨o, e, fun v z => by rw [d] at z; cases z⟩
  keep := fun i h h' st k => st.at fun o e => k it (by simp) o e
  item := by
    intro X hP hw hK hc i pins s σ H E I hf st hg
    subst hP hw hK
    obtain ⟨xs, x, hq, hx⟩ := hg
    obtain ⟨its, rv, p, hz⟩ := I.tuple hq
    obtain ⟨u, hu, ru⟩ := rv.get hx
    obtain ⟨f0, f1, f2, f3, f4, f5⟩ := hf it (by simp)
    refine wpAny_pyNext_tuple_item st (show s.heap.IsTuple a its.toArray from p) (x := u) (by simpa using hu) fun h' st' sb => ?_
    have I1 : Inv X pins σ H { s with heap := h' } := I.turned (t' := s.toks) (fun b o hb e => (sb.2 b hb).trans e) f0 f1 f3 f4 f5
    obtain ⟨o, e, c, d⟩ := id st'
    exact ⟨u, rfl, go_of (s := { s with heap := h' }) e c d (by decide) ⟨x, H, I1, ru, ⟨rfl, fun ys hy => by rw [I.tuple_inj hy hq]; exact hx⟩, st', fun b hb => (hf b hb).1⟩⟩
  done := by
    intro X hP hw hK hc i pins s σ H E I hf st hg
    subst hP hw hK
    obtain ⟨xs, hq, hx⟩ := hg
    obtain ⟨its, rv, p, hz⟩ := I.tuple hq
    obtain ⟨f0, f1, f2, f3, f4, f5⟩ := hf it (by simp)
    have hl := rv.length
    exact wpAny_pyNext_tuple_end (I.ok.hd hc) st (show s.heap.IsTuple a its.toArray from p) (by simp; omega) fun h' eb => ⟨rfl, I.turned (t' := s.toks) (fun b o hb e => eb b o hb e) f0 f1 f3 f4 f5⟩
  self := fun _ _ _ _ _ st h => wpAny_pyIter_tupleiter st h
theorem turn_range {P : Program} {w : World} {K : PySem.W.Frag} {tg : Expr} (it : Addr) (lo : Int) (n : Nat) : Turn P w K tg (Itr lo n) [it] it (fun i h => IsRangeIter h it (lo + (i : Nat) * 1) ((n : Int) - (i : Nat)) 1) where
  mem := by simp
  obj := fun i h st b hb => by
    have e : b = it := by simpa using hb
    subst e
    exact ⟨_, st, fun v z => by
      have z' : Data.fields _ = Data.cell v := z
      cases z'⟩
  keep := fun i h h' st k => k it (by simp) _ st
  item := by
    intro X hP hw hK hc i pins s σ H E I hf st hg
    subst hP hw hK
    obtain ⟨f0, f1, f2, f3, f4, f5⟩ := hf it (by simp)
    have W := Walks.range (prog := X.prog) (w := X.w) (I.ok.hd hc) it lo 1 n
    refine W.item i s _ _ hg st fun v h' tk hv st' kk => ?_
    obtain ⟨t, rfl⟩ := hv
    have I1 : Inv X pins σ H { s with heap := h', toks := tk } := I.turned (fun b o hb e => kk b o (by simpa using hb) e) f0 f1 f3 f4 f5
    refine ⟨_, rfl, go_of (s := { s with heap := h', toks := tk }) (n := "range_iterator") st' rfl rfl (by decide) ⟨.int (lo + i), H, I1, ⟨t, ?_⟩, ⟨rfl, rfl⟩, st', fun b hb => (hf b hb).1⟩⟩
    rw [Int.mul_one]
  done := by
    intro X hP hw hK hc i pins s σ H E I hf st hg
    subst hP hw hK
    obtain ⟨f0, f1, f2, f3, f4, f5⟩ := hf it (by simp)
    exact wpAny_pyNext_range_end (I.ok.hd hc) st (by have : n ≤ i := hg; omega) fun h' eb => ⟨rfl, I.turned (t' := s.toks) (fun b o hb e => eb b o hb e) f0 f1 f3 f4 f5⟩
  self := fun _ _ _ _ _ st h => wpAny_pyIter_rangeiter st h
end L2
namespace L2
open PySem PySem.Spec PyProof.Rows
section
variable {X : Cx} {tg : Expr}
noncomputable def iList (K : PySem.W.Frag) (tl : TE) : TI := fun σ H R => tl σ H fun x H1 => ∃ a, x = .ref a ∧ (∃ xs, SqL K H1 a xs) ∧ R (Itl K a) H1
noncomputable def iTup (K : PySem.W.Frag) (tl : TE) : TI := fun σ H R => tl σ H fun x H1 => ∃ a, x = .ref a ∧ (∃ xs, SqT K H1 a xs) ∧ R (Itt K a) H1
theorem range_it {pins : List (Addr × Obj)} {σ : St} {H : Hp} {s : Shared} {R : It → Hp → Prop} {E : Value → Shared → Prop} {lo hi : Int} {t u v : Tok} {tk : Nat} (I : Inv X pins σ H s) (h1 : -(2 ^ 62) ≤ lo) (h2 : lo < 2 ^ 62) (h3 : -(2 ^ 62) ≤ hi) (h4 : hi < 2 ^ 62)
    (q : R (Itr lo (hi - lo).toNat) H) : wpAny (model X.prog X.w) X.A (pyIter (.ref s.heap.objs.size)) (PIE X pins σ tg R) E { s with heap := s.heap.push { cls := .type "range", data := .fields #[.int lo t, .int hi u, .int 1 v] }, toks := tk } := by
  refine wpAny_pyIter_range (IsRange.new ..) (small_one h1 h2 h3 h4) ?_
  have I1 : Inv X pins σ H { s with heap := s.heap.push { cls := .type "range", data := .fields #[.int lo t, .int hi u, .int 1 v] }, toks := tk } := I.kept fun b o e => Heap.get?_push_of_some _ e
  refine ⟨(s.heap.push { cls := .type "range", data := .fields #[.int lo t, .int hi u, .int 1 v] }).objs.size, [(s.heap.push { cls := .type "range", data := .fields #[.int lo t, .int hi u, .int 1 v] }).objs.size], _, _, H, rfl,
    I1.kept (t' := tk) fun b o e => Heap.get?_push_of_some _ e, turn_range _ lo (hi - lo).toNat, ?_, fun b hb => ?_, q⟩
  · have e1 : lo + ((0 : Nat) : Int) * 1 = lo := by simp
    have e2 : (((hi - lo).toNat : Nat) : Int) - ((0 : Nat) : Int) = Builtin.Range.rangeSize lo hi 1 := by rw [rangeSize_one]; split <;> omega
    show IsRangeIter _ _ (lo + ((0 : Nat) : Int) * 1) ((((hi - lo).toNat : Nat) : Int) - ((0 : Nat) : Int)) 1
    rw [e1, e2]
    exact Heap.get?_push_size _ rfl
  · have e : b = (s.heap.push { cls := .type "range", data := .fields #[.int lo t, .int hi u, .int 1 v] }).objs.size := by simpa using hb
    subst e
    exact I1.fpOk (Nat.le_refl _) (I1.hok.fresh (Nat.le_refl _))
noncomputable def iRng1 (ta : TA) : TI := fun σ H R => ta σ H fun vs H1 => ∃ j : Int, vs = [.int j] ∧ -(2 ^ 62) ≤ j ∧ j < 2 ^ 62 ∧ R (Itr 0 j.toNat) H1
noncomputable def iRng2 (ta : TA) : TI := fun σ H R => ta σ H fun vs H1 => ∃ i j : Int, vs = [.int i, .int j] ∧ (-(2 ^ 62) ≤ i ∧ i < 2 ^ 62 ∧ -(2 ^ 62) ≤ j ∧ j < 2 ^ 62) ∧ R (Itr i (j - i).toNat) H1
theorem pi_range1 {a : Expr} {ta : TA} {p pos : Pos} (hg : Gl X "range") (hm : X.mg "range" = none) (ha : PA X [a] ta) (hs : starEach [a] X.env = [(false, eval a X.env)] := by rfl) : PI X tg (.Call (.Name "range" p) [a] [] pos) (iRng1 ta) := by
  intro pins s σ H R I h
  refine Call_ (ld_blt I hg hm boot_range (PyProof.Rows.callWith_type1 (thn (ha pos pins s σ H _ I h) fun us s1 ⟨vs, H1, I1, r1, q1⟩ => ?_) hs rfl))
  obtain ⟨j, e, q1, q2, q⟩ := q1
  subst e
  cases r1 with
  | cons r rr =>
    cases rr
    obtain ⟨t, rfl⟩ := r
    exact call_range_1 (range_it I1 (by omega) (by omega) q1 q2 (by simpa using q))
noncomputable def tFor (wi : TI) (g : TG) (tb : TS) : TS := fun D σ H => wi σ H fun J H1 => ∃ W : Nat → Nat → St → Hp → Prop, (∃ m, W 0 m σ H1) ∧ ∀ i m σ H, W i m σ H →
  (J.stop i H ∧ D.nx σ H) ∨ (J.go i H ∧ ∃ N : St → Hp → Prop, (∀ σ' H', N σ' H' → ∃ m', m' < m ∧ W (i + 1) m' σ' H') ∧ ∀ x H', J.yld i H x H' → g x σ H' fun σ2 H2 => tb { D with nx := N, ct := N, bk := D.nx } σ2 H2)
noncomputable def pinsAt (fp : List Addr) (h : Heap) : List (Addr × Obj) := fp.filterMap fun b => (h.get? b).map fun o => (b, o)
theorem mem_pinsAt {fp : List Addr} {h : Heap} {b : Addr} {o : Obj} (hb : b ∈ fp) (e : h.get? b = some o) : (b, o) ∈ pinsAt fp h := List.mem_filterMap.mpr ⟨b, hb, by rw [e]; rfl⟩
theorem of_pinsAt {fp : List Addr} {h : Heap} {p : Addr × Obj} (hp : p ∈ pinsAt fp h) : p.1 ∈ fp ∧ h.get? p.1 = some p.2 := by
  obtain ⟨b, hb, e⟩ := List.mem_filterMap.mp hp
  cases q : h.get? b with
  | none => rw [q] at e; cases e
  | some o =>
    rw [q] at e
    have e' : (b, o) = p := Option.some.inj e
    subst e'
    exact ⟨hb, q⟩
theorem Inv.pinned {pins : List (Addr × Obj)} {σ : St} {H : Hp} {s : Shared} {fp : List Addr} (I : Inv X pins σ H s) (hf : ∀ b ∈ fp, FpOk X pins H b) (ho : ∀ b ∈ fp, ∃ o, s.heap.get? b = some o ∧ ∀ v, o.data ≠ .cell v) : Inv X (pins ++ pinsAt fp s.heap) σ H s :=
  I.pins_of fun p hp => (List.mem_append.mp hp).elim (fun z => I.pin p (List.mem_append_right _ z)) fun z => by
    obtain ⟨hb, e⟩ := of_pinsAt z
    obtain ⟨f0, f1, f2, _⟩ := hf p.1 hb
    obtain ⟨o, e', d⟩ := ho p.1 hb
    rw [e] at e'; cases e'
    exact ⟨e, f0, f1, f2, d⟩
theorem Inv.unpinned {pins pl : List (Addr × Obj)} {σ : St} {H : Hp} {s : Shared} (I : Inv X (pins ++ pl) σ H s) : Inv X pins σ H s := I.pins_of fun p hp => I.pin p (List.mem_append_right _ (List.mem_append_left _ hp))
theorem ps_for {iter : Expr} {body : List Stmt} {wi : TI} {g : TG} {tb : TS} {pos : Pos} (hp : PassesOwn (model X.prog X.w) X.A X.env X.xe) (hc : X.calm = true) (hi : PI X tg iter wi) (hg : PG X tg g) (hb : PSs X body tb)
    (hs : ∀ x, foldedSetIterable iter X.env x = pure x := by intro _; rfl) : PS X (.For tg iter body [] pos) (tFor wi g tb) := by
  intro pins s σ H D I h
  refine wpAny_For (thn (hi pins s σ H _ I h) fun v s1 h1 => thn h1 fun itv s2 h2 => ?_) hs
  obtain ⟨it, fp, tn, J, H2, e, I2, T, st2, f2, W, ⟨m0, w0⟩, turn⟩ := h2
  subst e
  have stat : ∀ {H' : Hp}, (∀ b ∈ fp, H' b = none) → ∀ b ∈ fp, FpOk X pins H' b := fun hn b hb => ⟨hn b hb, (f2 b hb).2⟩
  refine codeAny_forLoop_any (fun n s' => ∃ i σ' H', Inv X pins σ' H' s' ∧ tn i s'.heap ∧ (∀ b ∈ fp, H' b = none) ∧ W i n σ' H') ?_ m0 ⟨0, σ, H2, I2, st2, fun b hb => (f2 b hb).1, w0⟩
  rintro n s3 ⟨i, σ3, H3, I3, st3, fr3, w3⟩
  rcases turn i n σ3 H3 w3 with ⟨stop, qn⟩ | ⟨go, N, hN, step⟩
  · refine wpAny_passesOwn hp (thn (T.done X rfl rfl rfl hc i pins s3 σ3 H3 X.xe I3 (stat fr3) st3 stop) fun r s4 ⟨hr, I4⟩ => ?_)
    subst hr
    exact wpAny_execs_nil ⟨σ3, H3, I4, qn⟩
  · refine wpAny_passesOwn hp (thn (T.item X rfl rfl rfl hc i pins s3 σ3 H3 X.xe I3 (stat fr3) st3 go) fun r s4 ⟨u, hr, h4⟩ => ?_)
    subst hr
    refine wpAny_passesOwn hp (thn h4 fun _ s5 ⟨x, H5, I5, r5, y5, st5, fr5⟩ => ?_)
    have I5' := I5.pinned (stat fr5) (T.obj _ _ st5)
    refine wpAny_passesOwn hp (thn (hg _ s5 σ3 H5 x u _ I5' r5 (step x H5 y5)) fun _ s6 ⟨σ6, H6, I6, q6⟩ => ?_)
    refine wpAny_passesOwn hp (thn (hb _ s6 σ6 H6 _ I6 q6) fun f s7 q7 => ?_)
    have again : ∀ {σ7 : St} {H7 : Hp}, Inv X (pins ++ pinsAt fp s5.heap) σ7 H7 s7 → N σ7 H7 → ∃ m, m < n ∧ ∃ i σ' H', Inv X pins σ' H' s7 ∧ tn i s7.heap ∧ (∀ b ∈ fp, H' b = none) ∧ W i m σ' H' := fun {σ7 H7} I7 n7 => by
      obtain ⟨m', hm, w7⟩ := hN σ7 H7 n7
      refine ⟨m', hm, i + 1, σ7, H7, I7.unpinned, T.keep _ _ _ st5 fun b hb o e => (I7.pin (b, o) (List.mem_append_right _ (List.mem_append_right _ (mem_pinsAt hb e)))).1, fun b hb => ?_, w7⟩
      obtain ⟨o, e, d⟩ := T.obj _ _ st5 b hb
      exact (I7.pin (b, o) (List.mem_append_right _ (List.mem_append_right _ (mem_pinsAt hb e)))).2.1
    cases f with
    | next => obtain ⟨σ7, H7, I7, n7⟩ := q7; exact again I7 n7
    | cont => obtain ⟨σ7, H7, I7, n7⟩ := q7; exact again I7 n7
    | brk => obtain ⟨σ7, H7, I7, q7⟩ := q7; exact ⟨σ7, H7, I7.unpinned, q7⟩
    | ret v => obtain ⟨x7, σ7, H7, I7, r7, q7⟩ := q7; exact ⟨x7, σ7, H7, I7.unpinned, r7, q7⟩
end
end L2
namespace L2
open PySem PySem.Spec PyProof.Rows
noncomputable abbrev R2 := V → V → Hp → VK → Prop
noncomputable def OpR (X : Cx) (f : Value → Value → Sem Value) (r : R2) : Prop :=
  ∀ (pins : List (Addr × Obj)) (s : Shared) (σ : St) (H : Hp) (x y : V) (v u : Value) (Q : VK), Inv X pins σ H s → RelV x v → RelV y u → r x y H Q →
    wpAny (model X.prog X.w) X.A (f v u) (EP X pins σ Q) X.xe s
noncomputable def UnR (X : Cx) (f : Value → Sem Value) (r : V → Hp → VK → Prop) : Prop :=
  ∀ (pins : List (Addr × Obj)) (s : Shared) (σ : St) (H : Hp) (x : V) (v : Value) (Q : VK), Inv X pins σ H s → RelV x v → r x H Q →
    wpAny (model X.prog X.w) X.A (f v) (EP X pins σ Q) X.xe s
noncomputable def CallR (X : Cx) (f : Value) (r : List V → Hp → VK → Prop) : Prop :=
  ∀ (pins : List (Addr × Obj)) (s : Shared) (σ : St) (H : Hp) (xs : List V) (us : List Value) (Q : VK), Inv X pins σ H s → Vals xs us → r xs H Q →
    wpAny (model X.prog X.w) X.A (call f us) (EP X pins σ Q) X.xe s
noncomputable def TruR (X : Cx) (r : V → Hp → (Bool → Hp → Prop) → Prop) : Prop :=
  ∀ (pins : List (Addr × Obj)) (s : Shared) (σ : St) (H : Hp) (x : V) (v : Value) (Q : Bool → Hp → Prop), Inv X pins σ H s → RelV x v → r x H Q →
    wpAny (model X.prog X.w) X.A (truthy v) (TP X pins σ Q) X.xe s
noncomputable def tOp (r : R2) (ta tb : TE) : TE := fun σ H Q => ta σ H fun x H1 => tb σ H1 fun y H2 => r x y H2 Q
noncomputable def tUn (r : V → Hp → VK → Prop) (ta : TE) : TE := fun σ H Q => ta σ H fun x H1 => r x H1 Q
noncomputable def rI (C : Int → Int → Prop) (g : Int → Int → V) : R2 := fun x y H Q => ∃ i j, x = .int i ∧ y = .int j ∧ C i j ∧ Q (g i j) H
noncomputable def rI0 (g : Int → Int → V) : R2 := fun x y H Q => ∃ i j, x = .int i ∧ y = .int j ∧ Q (g i j) H
noncomputable def rU (g : Int → V) : V → Hp → VK → Prop := fun x H Q => ∃ i, x = .int i ∧ Q (g i) H
section
variable {X : Cx} {a b c : Expr} {ta tb tc : TE} {pos : Pos}
theorem binT (ha : PE X a ta) (hb : PE X b tb) {pins : List (Addr × Obj)} {s : Shared} {σ : St} {H : Hp} {R : V → V → Hp → Prop} (I : Inv X pins σ H s)
    (h : ta σ H fun x H1 => tb σ H1 fun y H2 => R x y H2) {Q : Value → Shared → Prop} {f : Value → Value → Sem Value}
    (hf : ∀ v u s2 x y H2, Inv X pins σ H2 s2 → RelV x v → RelV y u → R x y H2 → wpAny (model X.prog X.w) X.A (f v u) Q X.xe s2) :
    wpAny (model X.prog X.w) X.A (eval a X.env) (fun v s₁ => wpAny (model X.prog X.w) X.A (eval b X.env) (fun u s₂ => wpAny (model X.prog X.w) X.A (f v u) Q X.xe s₂) X.xe s₁) X.xe s := by
  refine thn (ha pins s σ H _ I h) fun v s1 ⟨x, H1, I1, r1, q1⟩ => ?_
  refine thn (hb pins s1 σ H1 _ I1 q1) fun u s2 ⟨y, H2, I2, r2, q2⟩ => ?_
  exact hf v u s2 x y H2 I2 r1 r2 q2
theorem pe_op {op : Operator} {r : R2} (ho : OpR X (binaryOp op) r) (ha : PE X a ta) (hb : PE X b tb) : PE X (.BinOp a op b pos) (tOp r ta tb) := by
  intro pins s σ H Q I h
  exact wpAny_BinOp (binT ha hb I h fun v u s2 x y H2 I2 rx ry q => ho pins s2 σ H2 x y v u Q I2 rx ry q)
theorem opI {f : Value → Value → Sem Value} {C : Int → Int → Prop} {g : Int → Int → Int}
    (rule : ∀ (i j : Int) (t u : Tok) (s : Shared) (Q : Value → Shared → Prop) (E : Value → Shared → Prop), C i j → Q (.int (g i j) s.toks) { s with toks := s.toks + 1 } → wpAny (model X.prog X.w) X.A (f (.int i t) (.int j u)) Q E s) :
    OpR X f (rI C fun i j => .int (g i j)) := by
  intro pins s σ H x y v u Q I rx ry h
  obtain ⟨i, j, rfl, rfl, hc, q⟩ := h
  obtain ⟨t, rfl⟩ := rx
  obtain ⟨t', rfl⟩ := ry
  exact rule i j t t' s _ _ hc ⟨.int (g i j), H, I.tok _, ⟨_, rfl⟩, q⟩
theorem opI0 {f : Value → Value → Sem Value} {g : Int → Int → Int}
    (rule : ∀ (i j : Int) (t u : Tok) (s : Shared) (Q : Value → Shared → Prop) (E : Value → Shared → Prop), Q (.int (g i j) s.toks) { s with toks := s.toks + 1 } → wpAny (model X.prog X.w) X.A (f (.int i t) (.int j u)) Q E s) :
    OpR X f (rI0 fun i j => .int (g i j)) := by
  intro pins s σ H x y v u Q I rx ry h
  obtain ⟨i, j, rfl, rfl, q⟩ := h
  obtain ⟨t, rfl⟩ := rx
  obtain ⟨t', rfl⟩ := ry
  exact rule i j t t' s _ _ ⟨.int (g i j), H, I.tok _, ⟨_, rfl⟩, q⟩
theorem opB0 {f : Value → Value → Sem Value} {g : Int → Int → Bool}
    (rule : ∀ (i j : Int) (t u : Tok) (s : Shared) (Q : Value → Shared → Prop) (E : Value → Shared → Prop), Q (.bool (g i j)) s → wpAny (model X.prog X.w) X.A (f (.int i t) (.int j u)) Q E s) :
    OpR X f (rI0 fun i j => .bl (g i j)) := by
  intro pins s σ H x y v u Q I rx ry h
  obtain ⟨i, j, rfl, rfl, q⟩ := h
  obtain ⟨t, rfl⟩ := rx
  obtain ⟨t', rfl⟩ := ry
  exact rule i j t t' s _ _ ⟨.bl (g i j), H, I, rfl, q⟩
noncomputable def CDiv (i j : Int) : Prop := 0 < j ∧ j < 1073741824
noncomputable def CDivN (i j : Int) : Prop := j ≠ 0 ∧ j.natAbs < 1073741824
noncomputable def CPow (i j : Int) : Prop := 0 ≤ j ∧ j ≤ 1000000 ∧ i.natAbs < 2 ^ 64
noncomputable def CMul (i j : Int) : Prop := (-(2 ^ 64) < i ∧ i < 2 ^ 64) ∨ (-(2 ^ 64) < j ∧ j < 2 ^ 64)
theorem CMul.ok {i j : Int} (h : CMul i j) : IntMulOk i j := by
  rcases h with ⟨h1, h2⟩ | ⟨h1, h2⟩
  · exact .of_left (intBits_le_64 h1 h2)
  · exact .of_right (intBits_le_64 h1 h2)
theorem op_add : OpR X (binaryOp .Add) (rI0 fun i j => .int (i + j)) := opI0 fun _ _ _ _ _ _ _ q => add_int q
theorem op_sub : OpR X (binaryOp .Sub) (rI0 fun i j => .int (i - j)) := opI0 fun _ _ _ _ _ _ _ q => sub_int q
theorem op_modN : OpR X (binaryOp .Mod) (rI (fun _ j => j ≠ 0) fun i j => .int (i.fmod j)) := opI fun _ _ _ _ _ _ _ hc q => mod_int' hc q
theorem op_pow : OpR X (binaryOp .Pow) (rI CPow fun i j => .int (i ^ j.toNat)) := opI fun _ _ _ _ _ _ _ hc q => pow_int_small hc.1 hc.2.1 hc.2.2 q
end
noncomputable def scal : V → V → Bool
  | .non, .non => true | .non, .int _ => true | .int _, .non => true | .non, .bl _ => true | .bl _, .non => true | .non, .str _ => true | .str _, .non => true
  | .int _, .int _ => true | .bl _, .bl _ => true | .str _, .str _ => true | .byt _, .byt _ => true
  | .int _, .str _ => true | .str _, .int _ => true | .bl _, .str _ => true | .str _, .bl _ => true
  | _, _ => false
noncomputable def rEq : R2 := fun x y H Q => scal x y = true ∧ Q (.bl (decide (x = y))) H
noncomputable def rNe : R2 := fun x y H Q => scal x y = true ∧ Q (.bl (!decide (x = y))) H
section
variable {X : Cx} {a b c : Expr} {ta tb tc : TE} {pos : Pos}
theorem op_lt : OpR X (compareOp .Lt) (rI0 fun i j => .bl (decide (i < j))) := opB0 fun _ _ _ _ _ _ _ q => lt_int q
theorem op_gt : OpR X (compareOp .Gt) (rI0 fun i j => .bl (decide (j < i))) := opB0 fun _ _ _ _ _ _ _ q => gt_int q
noncomputable def isObj : HO → Bool
  | .lst _ => true
  | .ins _ _ _ => true
  | _ => false
theorem pe_cmpR {op : CmpOp} {r : R2} (ho : OpR X (compareOp op) r) (ha : PE X a ta) (hb : PE X b tb) (hm : behindInMarks op b = false) : PE X (.Compare a [op] [b] pos) (tOp r ta tb) := by
  intro pins s σ H Q I h
  exact wpAny_Compare1 (binT ha hb I h fun v u s2 x y H2 I2 rx ry q => ho pins s2 σ H2 x y v u Q I2 rx ry q) hm
noncomputable def tTest (t : TE) : TT := fun σ H Q => t σ H fun x H' => ∃ k, x = .bl k ∧ Q k H'
theorem pt_cmpR {op : CmpOp} {r : R2} (ho : OpR X (compareOp op) r) (ha : PE X a ta) (hb : PE X b tb) (hm : behindInMarks op b = false) : PT X (.Compare a [op] [b] pos) (tTest (tOp r ta tb)) := by
  intro pins s σ H Q I h
  refine wpAny_isTrue_Compare1 (thn (ha pins s σ H _ I h) fun v s1 ⟨x, H1, I1, r1, q1⟩ => thn (hb pins s1 σ H1 _ I1 q1) fun u s2 ⟨y, H2, I2, r2, q2⟩ =>
    thn (ho pins s2 σ H2 x y v u _ I2 r1 r2 q2) fun c s3 ⟨z, H3, I3, r3, k, e, q3⟩ => ?_) hm
  subst e
  cases r3
  exact wpAny_truthy_bool ⟨H3, I3, q3⟩
noncomputable def tChain (r r' : R2) (ta tb tc : TE) : TE := fun σ H Q => ta σ H fun x H1 => tb σ H1 fun y H2 => r x y H2 fun z H3 => ∃ k, z = .bl k ∧
  (if k = true then tc σ H3 fun w' H4 => r' y w' H4 Q else Q (.bl false) H3)
noncomputable def TruV (K : PySem.W.Frag) (x : V) (H : Hp) (k : Bool) : Prop :=
  match x with
  | .non => k = false
  | .bl b => k = b
  | .int i => k = (i != 0)
  | .str y => y.length ≤ sizeLine ∧ k = ((y.length : Int) != 0)
  | .byt y => y.size ≤ sizeLine ∧ k = ((y.size : Int) != 0)
  | .ref p => (∃ xs, SqL K H p xs ∧ k = !xs.isEmpty) ∨ (∃ xs, SqT K H p xs ∧ k = !xs.isEmpty) ∨ ∃ kvs, H p = some (.dK kvs) ∧ k = !kvs.isEmpty
  | _ => False
theorem line63 : (sizeLine : Nat) < 2 ^ 63 := by rw [sizeLine_eq]; decide
noncomputable def PlainIxT (b : Expr) : Prop := ∀ o i, subscripted b false o i = operate [o, i] (getItem o i)
theorem vals1 {x : V} {us : List Value} (r : Vals [x] us) : ∃ u, us = [u] ∧ RelV x u := by
  cases r with
  | cons r1 r2 => cases r2; exact ⟨_, rfl, r1⟩
theorem vals2 {x y : V} {us : List Value} (r : Vals [x, y] us) : ∃ u w', us = [u, w'] ∧ RelV x u ∧ RelV y w' := by
  cases r with
  | cons r1 r2 =>
    cases r2 with
    | cons r3 r4 => cases r4; exact ⟨_, _, rfl, r1, r3⟩
theorem call_max2 (hc : X.calm = true) : CallR X (.builtin "max") (fun xs H Q => ∃ i j, xs = [.int i, .int j] ∧ Q (.int (if j > i then j else i)) H) := by
  intro pins s σ H xs us Q I r h
  obtain ⟨i, j, rfl, q⟩ := h
  obtain ⟨u, w', rfl, ⟨t, rfl⟩, ⟨t', rfl⟩⟩ := vals2 r
  refine max_two_ints (I.ok.hd hc) fun h' tk k => ⟨_, H, I.kept k, ?_, q⟩
  by_cases hj : j > i
  · rw [if_pos hj, if_pos hj]; exact ⟨_, rfl⟩
  · rw [if_neg hj, if_neg hj]; exact ⟨_, rfl⟩
theorem call_min2 (hc : X.calm = true) : CallR X (.builtin "min") (fun xs H Q => ∃ i j, xs = [.int i, .int j] ∧ Q (.int (if j < i then j else i)) H) := by
  intro pins s σ H xs us Q I r h
  obtain ⟨i, j, rfl, q⟩ := h
  obtain ⟨u, w', rfl, ⟨t, rfl⟩, ⟨t', rfl⟩⟩ := vals2 r
  refine min_two_ints (I.ok.hd hc) fun h' tk k => ⟨_, H, I.kept k, ?_, q⟩
  by_cases hj : j < i
  · rw [if_pos hj, if_pos hj]; exact ⟨_, rfl⟩
  · rw [if_neg hj, if_neg hj]; exact ⟨_, rfl⟩
theorem call_int1 : CallR X (.type "int") (fun xs H Q => (∃ i, xs = [.int i] ∧ Q (.int i) H) ∨ ∃ k, xs = [.bl k] ∧ Q (.int (if k then 1 else 0)) H) := by
  intro pins s σ H xs us Q I r h
  rcases h with ⟨i, rfl, q⟩ | ⟨k, rfl, q⟩
  · obtain ⟨u, rfl, t, rfl⟩ := vals1 r
    exact call_int_int ⟨.int i, H, I, ⟨_, rfl⟩, q⟩
  · obtain ⟨u, rfl, r1⟩ := vals1 r
    cases r1
    exact call_int_bool ⟨.int (if k then 1 else 0), H, I.tok _, ⟨_, rfl⟩, q⟩
noncomputable def LenV (K : PySem.W.Frag) (x : V) (H : Hp) (n : Nat) : Prop :=
  match x with
  | .str y => y.length ≤ sizeLine ∧ n = y.length
  | .byt y => y.size ≤ sizeLine ∧ n = y.size
  | .ref p => (∃ xs, SqL K H p xs ∧ n = xs.length) ∨ ∃ xs, SqT K H p xs ∧ n = xs.length
  | _ => False
end
end L2
namespace L2
open PySem PySem.Spec PyProof.Rows
structure ObjM (h : Heap) (x dx C : Addr) (mA : Str → Option Value) : Prop where
  obj : h.get? x = some (PySem.W.instObj C dx)
  ns : h.Ns1 dx mA
  ne : dx ≠ x
section
variable {prog : Program} {w : World} {A : Around} {E : Value → Shared → Prop} {s : Shared} {K : PySem.W.Frag} {x dx C f : Addr} {mA : Str → Option Value} {name : Str} {v : Value}
end
noncomputable def putF (f : Str) (v : V) : List (Str × V) → List (Str × V)
  | [] => [(f, v)]
  | (g, x) :: r => if g = f then (g, v) :: r else (g, x) :: putF f v r
theorem RelO.some_of {v : V} {o : Option Value} (r : RelO (some v) o) : ∃ u, o = some u ∧ RelV v u := by
  cases o with
  | none => exact (show False from r).elim
  | some u => exact ⟨u, rfl, r⟩
section
variable {P : Program} {w : World} {H H' : Hp} {h h' : Heap} {a C dx : Addr} {fs fs' : List (Str × V)}
end
structure Cls (K : PySem.W.Frag) (C : Addr) : Prop where
  pg : PySem.W.plainGet K C Str.empty = true
  hd : PySem.W.hasDictIn K C = true
  po : PySem.W.plainOver K C = true
  sa : PySem.W.findIn K (.ref C) "__setattr__" = some (some (.builtin "object.__setattr__"))
noncomputable def NoAttr (K : PySem.W.Frag) (C : Addr) (f : Str) : Prop := PySem.W.findIn K (.ref C) f = some none
structure Con (K : PySem.W.Frag) (C : Addr) (f : Str) (v : V) (u : Value) : Prop where
  at_ : PySem.W.findIn K (.ref C) f = some (some u)
  rel : RelV v u
  get : PySem.W.specialIn K u "__get__" = some none
  cp : PySem.W.copiedNames.contains f = false
structure Meth (K : PySem.W.Frag) (C : Addr) (m : Str) (f : Addr) : Prop where
  at_ : PySem.W.findIn K (.ref C) m = some (some (.ref f))
  fn : PySem.W.isFn K (.ref f) = true
  kp : PySem.W.keepIn K (.ref f) = true
section
variable {X : Cx} {pins : List (Addr × Obj)} {σ : St} {H : Hp} {s : Shared} {a C dx : Addr} {fs : List (Str × V)} {f : Str} {v : V} {A : Around} {E : Value → Shared → Prop}
end
noncomputable def tFld (K : PySem.W.Frag) (ta : TE) (f : Str) : TE := fun σ H Q => ta σ H fun x H1 => ∃ a C dx fs v, x = .ref a ∧ H1 a = some (.ins C dx fs) ∧ Cls K C ∧ NoAttr K C f ∧ fs.lookup f = some v ∧ Q v H1
noncomputable def tCon (K : PySem.W.Frag) (ta : TE) (f : Str) : TE := fun σ H Q => ta σ H fun x H1 => ∃ a C dx fs v u, x = .ref a ∧ H1 a = some (.ins C dx fs) ∧ Cls K C ∧ Con K C f v u ∧ fs.lookup f = none ∧ Q v H1
noncomputable def sFld (K : PySem.W.Frag) (ta tv : TE) (f : Str) : TS := fun D σ H => tv σ H fun y H1 => ta σ H1 fun x H2 => ∃ a C dx fs, x = .ref a ∧ H2 a = some (.ins C dx fs) ∧ Cls K C ∧ NoAttr K C f ∧ fs.length < 1000 ∧
  D.nx σ (upd H2 a (.ins C dx (putF f y fs)))
noncomputable def InOp (X : Cx) (op : Operator) (rd : V → V → Hp → VK → Prop) : Prop :=
  ∀ (pins : List (Addr × Obj)) (s : Shared) (σ : St) (H : Hp) (x y : V) (u v : Value) (Q : VK), Inv X pins σ H s → RelV x u → RelV y v → rd x y H Q → wpAny (model X.prog X.w) X.A (inplaceOp op u v) (EP X pins σ Q) X.xe s
noncomputable def sFldAug (K : PySem.W.Frag) (ta tv : TE) (rd : V → V → Hp → VK → Prop) (f : Str) : TS := fun D σ H => ta σ H fun x H1 => ∃ a C dx fs v, x = .ref a ∧ H1 a = some (.ins C dx fs) ∧ Cls K C ∧ NoAttr K C f ∧ fs.lookup f = some v ∧
  tv σ H1 fun y H2 => rd v y H2 fun z H3 => ∃ dx' fs', H3 a = some (.ins C dx' fs') ∧ fs'.length < 1000 ∧ D.nx σ (upd H3 a (.ins C dx' (putF f z fs')))
section
variable {X : Cx} {o e value : Expr} {f : Str} {pos pos' tpos : Pos} {ta tv : TE}
noncomputable def rAdd : V → V → Hp → VK → Prop := fun x y H Q => ∃ i j, x = .int i ∧ y = .int j ∧ Q (.int (i + j)) H
noncomputable def rSub : V → V → Hp → VK → Prop := fun x y H Q => ∃ i j, x = .int i ∧ y = .int j ∧ Q (.int (i - j)) H
theorem in_add : InOp X .Add rAdd := by
  rintro pins s σ H x y u v Q I rx ry ⟨i, j, rfl, rfl, q⟩
  obtain ⟨t, rfl⟩ := (show ∃ t, u = Value.int i t from rx)
  obtain ⟨t', rfl⟩ := (show ∃ t', v = Value.int j t' from ry)
  exact PyProof.Rows.iadd_int ⟨.int (i + j), H, I.tok _, ⟨_, rfl⟩, q⟩
theorem in_sub : InOp X .Sub rSub := by
  rintro pins s σ H x y u v Q I rx ry ⟨i, j, rfl, rfl, q⟩
  obtain ⟨t, rfl⟩ := (show ∃ t, u = Value.int i t from rx)
  obtain ⟨t', rfl⟩ := (show ∃ t', v = Value.int j t' from ry)
  exact PyProof.Rows.isub_int ⟨.int (i - j), H, I.tok _, ⟨_, rfl⟩, q⟩
end
section
variable {X : Cx} {pins : List (Addr × Obj)} {σ : St} {H : Hp} {s : Shared} {A : Around} {E : Value → Shared → Prop} {Q : Value → Shared → Prop} {c : Value} {b : Bool}
inductive TyOf (K : PySem.W.Frag) (H : Hp) : V → Value → Prop where
  | non : TyOf K H .non (.type "NoneType")
  | bl (x : Bool) : TyOf K H (.bl x) (.type "bool")
  | int (i : Int) : TyOf K H (.int i) (.type "int")
  | str (x : Str) : TyOf K H (.str x) (.type "str")
  | flt (x : UInt64) : TyOf K H (.flt x) (.type "float")
  | lst {a : Addr} {xs : List V} (e : H a = some (.lst xs)) : TyOf K H (.ref a) (.type "list")
  | frz {a : Addr} {o : Obj} {xs : List V} (e : H a = some (.frz o (.lst xs))) : TyOf K H (.ref a) (.type "list")
  | tup {a : Addr} {xs : List V} (e : H a = some (.tup xs)) : TyOf K H (.ref a) (.type "tuple")
  | dK {a : Addr} {kvs : List (Key × V)} (e : H a = some (.dK kvs)) : TyOf K H (.ref a) (.type "dict")
  | dT {a : Addr} {kvs : List (List Key × V)} (e : H a = some (.dT kvs)) : TyOf K H (.ref a) (.type "dict")
  | ins {a C dx : Addr} {fs : List (Str × V)} (e : H a = some (.ins C dx fs)) (cl : Cls K C) (ha : PySem.W.findIn K (.ref C) "__class__" = some (some (.builtin "object.__class__")))
      (hn : PySem.W.specialIn K (.builtin "object.__class__") "__get__" = some (some (.builtin "getset_descriptor.__get__"))) (htk : PySem.W.takesIn K (.builtin "object.__class__") = some true)
      (hm : PySem.W.mroIn K C (.type "object") = some true) : TyOf K H (.ref a) (.ref C)
end
end L2
namespace L2
open PySem PySem.Spec PyProof.Rows
structure Room (k : Nat) (A : Around) : Prop where
  hd : A.handled = none
  dp : A.depth + 3 * k + 5 < recursionLimit
  un : A.units + 16 * k + 200 < cLine
theorem Room.mono {j k : Nat} {A : Around} (r : Room k A) (h : j ≤ k) : Room j A := ⟨r.hd, by have := r.dp; omega, by have := r.un; omega⟩
theorem Room.deeper {k : Nat} {A : Around} (r : Room (k + 1) A) (env : Env) : Room k (A.deeper env) :=
  ⟨r.hd, by have := r.dp; show A.depth + 1 + 3 * k + 5 < _; omega, by have := r.un; show A.units + 3 + 16 * k + 200 < _; omega⟩
theorem Room.depth {k : Nat} {A : Around} (r : Room k A) : A.depth < recursionLimit := by have := r.dp; omega
noncomputable def tNil : TA := fun _ H Q => Q [] H
noncomputable def tCons (ta : TE) (tr : TA) : TA := fun σ H Q => ta σ H fun x H1 => tr σ H1 fun xs H2 => Q (x :: xs) H2
section
variable {X : Cx} {e : Expr} {es : List Expr} {te : TE} {t : TA} {pos : Pos}
theorem pa_nil : PA X [] tNil := fun _ _ _ _ H Q I h => Calls.spliced_nil ⟨[], H, I, .nil, h⟩
theorem pa_cons (ha : PE X e te) (hr : PA X es t) (hs : starEach (e :: es) X.env = (false, eval e X.env) :: starEach es X.env := by rfl) : PA X (e :: es) (tCons te t) := by
  intro pos pins s σ H Q I h
  rw [hs]
  show wpAny _ _ (spliced ((false, eval e X.env) :: backTo pos (starEach es X.env))) _ _ s
  refine Calls.spliced_cons (thn (ha pins s σ H _ I h) fun u s1 ⟨x, H1, I1, r1, q1⟩ => ?_)
  exact thn (hr pos pins s1 σ H1 _ I1 q1) fun us s2 ⟨xs, H2, I2, r2, q2⟩ => ⟨x :: xs, H2, I2, .cons r1 r2, q2⟩
noncomputable def tTup (t : TA) : TE := fun σ H Q => t σ H fun xs H1 => xs.length ≤ sizeLine ∧ ∀ p, H1 p = none → Q (.ref p) (upd H1 p (.tup xs))
noncomputable def tLst (t : TA) : TE := fun σ H Q => t σ H fun xs H1 => xs.length ≤ sizeLine ∧ ∀ p, H1 p = none → Q (.ref p) (upd H1 p (.lst xs))
theorem pe_tup {x1} (h : PA X es t) : PE X (.Tuple es x1 pos) (tTup t) := by
  intro pins s σ H Q I hq
  refine wpAny_Tuple_spliced (thn (h pos pins s σ H _ I hq) fun us s1 ⟨xs, H1, I1, r, z, q⟩ => ⟨by rw [← r.length]; exact z, ?_⟩)
  have hf : H1 s1.heap.objs.size = none := I1.hok.fresh (Nat.le_refl _)
  refine ⟨.ref s1.heap.objs.size, upd H1 s1.heap.objs.size (.tup xs), I1.laid (t' := s1.toks) (fun b u e => Heap.get?_push_of_some _ e) (Nat.le_refl _) ?_, rfl, q _ hf⟩
  exact ⟨z, us, r, ⟨_, Heap.get?_push_size _ rfl, rfl, _, rfl⟩⟩
theorem pe_lst (h : PA X es t) : PE X (.List es pos) (tLst t) := by
  intro pins s σ H Q I hq
  refine wpAny_List_spliced (thn (h pos pins s σ H _ I hq) fun us s1 ⟨xs, H1, I1, r, z, q⟩ => ⟨by rw [← r.length]; exact z, ?_⟩)
  have hf : H1 s1.heap.objs.size = none := I1.hok.fresh (Nat.le_refl _)
  refine ⟨.ref s1.heap.objs.size, upd H1 s1.heap.objs.size (.lst xs), I1.laid (t' := s1.toks) (fun b u e => Heap.get?_push_of_some _ e) (Nat.le_refl _) ?_, rfl, q _ hf⟩
  exact ⟨z, us, 0, r, Heap.get?_push_size _ rfl⟩
end
noncomputable abbrev Sp := List V → Hp → VK → XK → Prop
noncomputable abbrev CXT := List Env → Hp → Shared → XK → Value → Shared → Prop
structure Env0 (P : Program) (w : World) (K : PySem.W.Frag) (mg : Str → Option Value) (base : Heap) (A : Around) (outer : List Env) (s : Shared) (H : Hp) : Prop where
  frames : A.frames = some outer
  mod : Mod K mg base
  bs : ∀ b o, base.get? b = some o → s.heap.get? b = some o ∧ H b = none
  bsz : base.objs.size ≤ s.heap.objs.size
  funs : s.heap.FunFrames base outer
  frf : ∀ b ∈ frs outer, H b = none
  hok : HOk P w H s.heap
  bare : AllBare s.gens
noncomputable def CE (outer : List Env) (P : Program) (w : World) (H : Hp) (s : Shared) (Q : VK) (u : Value) (s' : Shared) : Prop :=
  ∃ v H', s'.os = s.os ∧ AllBare s'.gens ∧ Un (frs outer) [] H H' s.heap s'.heap ∧ HOk P w H' s'.heap ∧ RelV v u ∧ Q v H'
noncomputable def CR (CX : CXT) (outer : List Env) (P : Program) (w : World) (H : Hp) (s : Shared) (Q : VK) (E : XK) (r : Result) (s' : Shared) : Prop :=
  match r with
  | .ok (.ret u) => CE outer P w H s Q u s'
  | .ok _ => False
  | .error e => CX outer H s E e s'
structure FnOk (P : Program) (w : World) (K : PySem.W.Frag) (mg : Str → Option Value) (base : Heap) (CX : CXT) (k : Nat) (f : Addr) (fd : FuncData) (ps : List Str) (sp : Sp) : Prop where
  len : ∀ vs H Q E, sp vs H Q E → vs.length = ps.length
  run : ∀ (A : Around) (outer : List Env) (s : Shared) (H : Hp) (args : Args) (us : List Value) (vs : List V) (Q : VK) (E : XK), Room k A → Env0 P w K mg base A outer s H → BindsTo s fd args (ps.zip us) → Vals vs us → sp vs H Q E →
    codeAny (model P w) A (.call (.ref f) args) (CR CX outer P w H s Q E) s
theorem FnOk.imp {P : Program} {w : World} {K : PySem.W.Frag} {mg : Str → Option Value} {base : Heap} {CX : CXT} {k : Nat} {f : Addr} {fd : FuncData} {ps : List Str} {sp sp' : Sp} (F : FnOk P w K mg base CX k f fd ps sp)
    (h : ∀ vs H Q E, sp' vs H Q E → sp vs H Q E) : FnOk P w K mg base CX k f fd ps sp' :=
  ⟨fun vs H Q E q => F.len vs H Q E (h _ _ _ _ q), fun A outer s H args us vs Q E hr he hb hv hs => F.run A outer s H args us vs Q E hr he hb hv (h _ _ _ _ hs)⟩
section
variable {X : Cx} {pins : List (Addr × Obj)} {σ : St} {H : Hp} {s s' : Shared}
theorem Inv.env0 (I : Inv X pins σ H s) : Env0 X.prog X.w X.K X.mg X.base X.A X.stack s H :=
  ⟨I.ok.frames, I.ok.mod, I.bs, Nat.le_trans I.ok.bsz I.sz, I.stack, I.stkFree, I.hok, I.bare⟩
theorem Inv.after {Q : VK} {u : Value} (I : Inv X pins σ H s) (h : CE X.stack X.prog X.w H s Q u s') : EP X pins σ Q u s' := by
  obtain ⟨v, H', os, bare, un, hok, r, q⟩ := h
  obtain ⟨hh, g, d, t, os'⟩ := s'
  obtain rfl : os' = s.os := os
  exact ⟨v, H', I.call (h' := hh) (g' := g) (d' := d) (t' := t) (ch := []) un hok bare (fun b z => absurd z (by simp)), r, q⟩
end
noncomputable def tCall (sp : Sp) (dvs : List V) (E : XK) (t : TA) : TE := fun σ H Q => t σ H fun vs H1 => sp (vs ++ dvs) H1 Q E
noncomputable def tMeth (C : Addr) (m : Str) (sp : Sp) (dvs : List V) (E : XK) (ta : TE) (t : TA) : TE := fun σ H Q => ta σ H fun x H1 => ∃ a dx fs, x = .ref a ∧ H1 a = some (.ins C dx fs) ∧ fs.lookup m = none ∧
  t σ H1 fun vs H2 => sp (x :: (vs ++ dvs)) H2 Q E
noncomputable def tMake (C : Addr) (sp : Sp) (dvs : List V) (E : XK) (t : TA) : TE := fun σ H Q => t σ H fun vs H1 => ∀ x dx, H1 x = none → H1 dx = none → dx ≠ x →
  sp (.ref x :: (vs ++ dvs)) (upd (upd H1 dx (.own x)) x (.ins C dx [])) (fun v H2 => v = .non ∧ Q (.ref x) H2) E
noncomputable def Binds (K : PySem.W.Frag) (fd : FuncData) (ps : List Str) (ds : List Value) : Prop :=
  ∀ (s : Shared) (us : List Value), K.In s.heap → (us ++ ds).length = ps.length → BindsTo s fd ⟨us, []⟩ (ps.zip (us ++ ds))
theorem Binds.all {K : PySem.W.Frag} {fd : FuncData} {ps : List Str} (h : ∀ us : List Value, us.length = ps.length → bindArgs fd ⟨us, []⟩ = pure (ps.zip us)) : Binds K fd ps [] := fun s us _ hl => by
  rw [List.append_nil] at hl ⊢
  exact .of_eq (h us hl)
noncomputable def Passes (CX : CXT) (X : Cx) (E : XK) : Prop := ∀ (pins : List (Addr × Obj)) (σ : St) (H : Hp) (s : Shared) (e : Value) (s' : Shared), Inv X pins σ H s → CX X.stack H s E e s' → X.xe e s'
section
variable {X : Cx} {CX : CXT} {k : Nat} {f C : Addr} {fd : FuncData} {ps : List Str} {sp : Sp} {dvs : List V} {ds : List Value} {E : XK} {x m : Str} {p pos apos : Pos} {e o : Expr} {es : List Expr} {ta : TE} {t : TA}
theorem run_fn {pins : List (Addr × Obj)} {σ : St} {H : Hp} {s : Shared} {Q : VK} {us : List Value} {vs : List V} (F : FnOk X.prog X.w X.K X.mg X.base CX k f fd ps sp) (hr : Room k X.A) (hb : Binds X.K fd ps ds) (hd : Vals dvs ds) (hx : Passes CX X E)
    (I : Inv X pins σ H s) (r : Vals vs us) (h : sp (vs ++ dvs) H Q E) : wpAny (model X.prog X.w) X.A (call (.ref f) us) (EP X pins σ Q) X.xe s := by
  have r2 : Vals (vs ++ dvs) (us ++ ds) := r.append hd
  have hl : (us ++ ds).length = ps.length := by rw [← r2.length]; exact F.len _ _ _ _ h
  refine wpAny_call (codeAny_mono (F.run X.A X.stack s H ⟨us, []⟩ (us ++ ds) (vs ++ dvs) Q E hr I.env0 (hb s us I.kIn hl) r2 h) fun r s' hq => ?_)
  cases r with
  | error e => exact hx pins σ H s e s' I hq
  | ok fl =>
    cases fl with
    | ret u => exact I.after hq
    | next => exact False.elim hq
    | brk => exact False.elim hq
    | cont => exact False.elim hq
theorem pe_call (F : FnOk X.prog X.w X.K X.mg X.base CX k f fd ps sp) (hr : Room k X.A) (hg : Gl X x) (hm : X.mg x = some (.ref f)) (hk : PySem.W.keepIn X.K (.ref f) = true) (hb : Binds X.K fd ps ds) (hd : Vals dvs ds) (hx : Passes CX X E)
    (ha : PA X (e :: es) t) (hdb : (x == ("__debug__" : Str)) = false := by decide) (he : starEach (e :: es) X.env = (false, eval e X.env) :: starEach es X.env := by rfl) (hpl : (backTo pos (starEach es X.env)).any (·.1) = false := by rfl) :
    PE X (.Call (.Name x p) (e :: es) [] pos) (tCall sp dvs E t) := by
  intro pins s σ H Q I h
  refine wpAny_Call_Name_kw (ld_glob I hg hm ?_ hdb)
  refine PySem.W.callWith_K (h₀ := X.base) I.ok.mod.kin hk (thn (ha pos pins s σ H _ I h) fun us s1 ⟨vs, H1, I1, r, q⟩ => ⟨I1.kIn, ?_⟩) he hpl
  exact run_fn F hr hb hd hx I1 r q
structure Mk (K : PySem.W.Frag) (C f : Addr) : Prop where
  makes : PySem.W.makesIn K C = true
  init : PySem.W.findIn K (.ref C) "__init__" = some (some (.ref f))
  fn : PySem.W.isFn K (.ref f) = true
  kp : PySem.W.keepIn K (.ref C) = true
end
noncomputable def PK (X : Cx) (kws : List Keyword) (t : TA) : Prop :=
  ∀ (pos : Pos) (pins : List (Addr × Obj)) (s : Shared) (σ : St) (H : Hp) (Q : List V → Hp → Prop), Inv X pins σ H s → t σ H Q → wpAny (model X.prog X.w) X.A (evalAll ((backToKw pos (keywordEach kws X.env)).map (·.2))) (AP X pins σ Q) X.xe s
section
variable {X : Cx} {CX : CXT} {k : Nat} {f C : Addr} {fd : FuncData} {ps ks : List Str} {sp : Sp} {E : XK} {x m : Str} {p pos apos kpos : Pos} {e o : Expr} {es : List Expr} {kws : List Keyword} {te ta : TE} {t tk : TA} {nm : Option Str}
structure KBinds (K : PySem.W.Frag) (fd : FuncData) (ps ks : List Str) (g : List Value → List Value → List Value) (gV : List V → List V → List V) : Prop where
  to : ∀ (s : Shared) (us ws : List Value), K.In s.heap → (g us ws).length = ps.length → BindsTo s fd ⟨us, ks.zip ws⟩ (ps.zip (g us ws))
  rel : ∀ {vs : List V} {us : List Value} {zs : List V} {ws : List Value}, Vals vs us → Vals zs ws → Vals (gV vs zs) (g us ws)
noncomputable def tCallK (sp : Sp) (gV : List V → List V → List V) (E : XK) (t tk : TA) : TE := fun σ H Q => t σ H fun vs H1 => tk σ H1 fun zs H2 => sp (gV vs zs) H2 Q E
variable {g : List Value → List Value → List Value} {gV : List V → List V → List V}
end
structure FnScope (N P : List Str) (sc : Scope) : Prop where
  kind : sc.kind = .function
  co : sc.isCoroutine = false
  gen : sc.isGenerator = false
  nd : N.Nodup
  pre : N.take P.length = P
  par : ∀ x ∈ P, sc.names.lookup x = some .local ∨ sc.names.lookup x = some .cell
  nofree : ∀ y ∈ sc.names, y.2 ≠ .free
theorem bindL_out {kindOf : Str → Option NameKind} {x : Str} : ∀ {binds : List (Str × Value)} {m : Str → Option Value}, (∀ v, (x, v) ∉ binds) → bindL kindOf binds m x = m x
  | [], _, _ => rfl
  | (n, v) :: r, m, h => by
    unfold bindL
    rw [bindL_out fun w hw => h w (List.mem_cons_of_mem _ hw)]
    split
    · have : x ≠ n := by rintro rfl; exact h v List.mem_cons_self
      simp [this]
    · rfl
theorem bindC_out {kindOf : Str → Option NameKind} {x : Str} : ∀ {binds : List (Str × Value)} {m : Str → Option Value}, (∀ v, (x, v) ∉ binds) → bindC kindOf binds m x = m x
  | [], _, _ => rfl
  | (n, v) :: r, m, h => by
    unfold bindC
    rw [bindC_out fun w hw => h w (List.mem_cons_of_mem _ hw)]
    split
    · rfl
    · have : x ≠ n := by rintro rfl; exact h v List.mem_cons_self
      simp [this]
theorem bindL_get {kindOf : Str → Option NameKind} {x : Str} {v : Value} : ∀ {P : List Str} {vs : List Value} {i : Nat} {m : Str → Option Value}, P.Nodup → P[i]? = some x → vs[i]? = some v → kindOf x = some .local →
    bindL kindOf (P.zip vs) m x = some v
  | [], _, _, _, _, h, _, _ => by simp at h
  | _ :: _, [], _, _, _, _, h, _ => by simp at h
  | p :: P, w :: vs, 0, m, nd, h1, h2, hk => by
    simp at h1 h2; subst h1; subst h2
    show bindL kindOf ((p, w) :: P.zip vs) m p = _
    unfold bindL
    rw [bindL_out fun v hv => (List.nodup_cons.mp nd).1 (List.of_mem_zip hv).1, if_pos hk]
    simp
  | p :: P, w :: vs, i + 1, m, nd, h1, h2, hk => by
    show bindL kindOf ((p, w) :: P.zip vs) m x = _
    unfold bindL
    exact bindL_get (i := i) (List.nodup_cons.mp nd).2 (by simpa using h1) (by simpa using h2) hk
theorem bindC_get {kindOf : Str → Option NameKind} {x : Str} {v : Value} : ∀ {P : List Str} {vs : List Value} {i : Nat} {m : Str → Option Value}, P.Nodup → P[i]? = some x → vs[i]? = some v → kindOf x ≠ some .local →
    bindC kindOf (P.zip vs) m x = some v
  | [], _, _, _, _, h, _, _ => by simp at h
  | _ :: _, [], _, _, _, _, h, _ => by simp at h
  | p :: P, w :: vs, 0, m, nd, h1, h2, hk => by
    simp at h1 h2; subst h1; subst h2
    show bindC kindOf ((p, w) :: P.zip vs) m p = _
    unfold bindC
    rw [bindC_out fun v hv => (List.nodup_cons.mp nd).1 (List.of_mem_zip hv).1, if_neg hk]
    simp
  | p :: P, w :: vs, i + 1, m, nd, h1, h2, hk => by
    show bindC kindOf ((p, w) :: P.zip vs) m x = _
    unfold bindC
    exact bindC_get (i := i) (List.nodup_cons.mp nd).2 (by simpa using h1) (by simpa using h2) hk
noncomputable def start (N : List Str) (vs : List V) : St := vs.map some ++ List.replicate (N.length - vs.length) none
noncomputable def cxOf (CX : CXT) (P : Program) (w : World) (K : PySem.W.Frag) (mg : Str → Option Value) (base : Heap) (N : List Str) (qual : Str) (scope : Scope) (f : Addr) (cd : Value) (A : Around) (outer : List Env) (s : Shared) (H : Hp) (E : XK) : Cx where
  prog := P
  w := w
  K := K
  mg := mg
  base := base
  A := A.deeper (envOfC qual scope s.heap.objs.size f cd)
  N := N
  s₀ := s
  H₀ := H
  env := envOfC qual scope s.heap.objs.size f cd
  outer := outer
  stack := envOfC qual scope s.heap.objs.size f cd :: outer
  ex := []
  calm := true
  fn := fun _ => true
  pn := []
  xe := fun e s' => wpAny (model P w) (A.deeper (envOfC qual scope s.heap.objs.size f cd)) (leaving (envOfC qual scope s.heap.objs.size f cd) e) (fun _ s'' => CX outer H s E e s'') (fun e' s'' => CX outer H s E e' s'') s'
theorem cell_has {sc : Scope} {n : Nat} {x : Str} (h : sc.names.lookup x = some .cell) : ∃ c, (cellsFrom n sc.names []).lookup x = some c := by
  have q := PySem.W.cellsFrom_some sc.names n [] (.inl h)
  exact Option.isSome_iff_exists.mp q
theorem inv_start {CX : CXT} {P : Program} {w : World} {K : PySem.W.Frag} {mg : Str → Option Value} {base : Heap} {N ps : List Str} {qual : Str} {scope : Scope} {f : Addr} {cd : Value} {A : Around} {outer : List Env} {s s1 : Shared} {H : Hp} {E : XK} {us : List Value} {vs : List V}
    (S : FnScope N ps scope) (hd : A.handled = none) (e0 : Env0 P w K mg base A outer s H) (hl : vs.length = ps.length) (r : Vals vs us)
    (x : InCallC s s.heap.objs.size (bindL (envOfC qual scope s.heap.objs.size f cd).kindOf (ps.zip us) fun _ => none) (cellsFrom (s.heap.objs.size + 1) scope.names []) (bindC (envOfC qual scope s.heap.objs.size f cd).kindOf (ps.zip us) fun _ => none) s1) :
    Inv (cxOf CX P w K mg base N qual scope f cd A outer s H E) [] (start N vs) H s1 := by
  have hpl : ps.length ≤ N.length := by have := congrArg List.length S.pre; rw [List.length_take] at this; omega
  obtain ⟨h1, tk, rfl, hk⟩ := x.done
  have noA : ∀ b : Addr, b ∉ (cxOf CX P w K mg base N qual scope f cd A outer s H E).ex := fun b z => absurd (show b ∈ ([] : List Addr) from z) (by simp)
  refine ⟨⟨e0.mod, S.kind, rfl, rfl, Nat.le_refl _, fun y z c h1 h2 => ?_, fun y hy => ?_, fun y c _ h => ?_, fun _ => hd, Around.frames_deeper e0.frames, .inr ⟨rfl, rfl⟩, fun b z => absurd z (noA b), e0.bs, e0.bsz, fun b _ _ => noA b, fun b z => absurd z (noA b), e0.funs, e0.frf⟩,
    rfl, e0.bare, Un.kept hk, ⟨_, x.toInCall.ns, fun i y v h1 h2 h3 => ?_⟩, fun y c h => ⟨_, x.cell y c h⟩, e0.hok.fresh (Nat.le_refl _), fun y c h => ?_, fun p hp => absurd (show p ∈ ([] : List (Addr × Obj)) from hp) (by simp), e0.hok.kept hk, ?_⟩
  · exact name_of_addr x.apart (PySem.mem_of_lookup h1) (PySem.mem_of_lookup h2)
  · have hy : scope.names.lookup y = some .cell ∨ scope.names.lookup y = some .free := hy
    rcases hy with hy | hy
    · exact cell_has hy
    · exact absurd rfl (S.nofree _ (PySem.mem_of_lookup hy))
  · exact Nat.le_of_lt (x.above y c (PySem.mem_of_lookup h))
  · have hi : i < vs.length := by
      unfold start at h2
      by_cases hi : i < vs.length
      · exact hi
      · rw [List.getElem?_append_right (by simpa using hi)] at h2
        rw [List.getElem?_replicate] at h2
        split at h2 <;> cases h2
    have ha : vs[i]? = some v := by
      unfold start at h2
      rw [List.getElem?_append_left (by simpa using hi), List.getElem?_map] at h2
      cases e : vs[i]? with
      | none => rw [e] at h2; cases h2
      | some a => rw [e] at h2; cases h2; rfl
    obtain ⟨u, hu, rv⟩ := r.get ha
    have hp : ps[i]? = some y := by
      rw [← S.pre, List.getElem?_take_of_lt (by omega)]; exact h1
    have ndP : ps.Nodup := by rw [← S.pre]; exact S.nd.sublist (List.take_sublist _ _)
    refine ⟨u, rv, ?_⟩
    rcases S.par y (List.mem_of_getElem? hp) with k | k
    · exact .inl ⟨k, bindL_get ndP hp hu k⟩
    · obtain ⟨c, e⟩ := cell_has (n := s.heap.objs.size + 1) k
      refine .inr ⟨.inl k, c, e, ?_⟩
      have q := x.cell y c e
      rw [bindC_get ndP hp hu (by show scope.names.lookup y ≠ _; rw [k]; decide)] at q
      exact q
  · exact e0.hok.fresh (Nat.le_of_lt (x.above y c (PySem.mem_of_lookup h)))
  · unfold start
    show _ = N.length
    rw [List.length_append, List.length_map, List.length_replicate]
    omega
theorem fn_of {CX : CXT} {P : Program} {w : World} {K : PySem.W.Frag} {mg : Str → Option Value} {base : Heap} {k : Nat} {f : Addr} {name qual : Str} {params : Arguments} {body : List Stmt} {scope : Scope} {dV kV doc pm cdv ct oc : Value} {an od : Option Addr}
    {osl : Array (Option Value)} {N ps : List Str} {sp : Sp} (lk : K.lookup f = some ⟨oc, od, .func (PySem.W.fnOf name qual params body scope dV kV doc pm an cdv ct), osl⟩) (hcd : PySem.W.codeIn K cdv qual = true) (S : FnScope N ps scope)
    (len : ∀ vs H Q E, sp vs H Q E → vs.length = ps.length)
    (hbody : ∀ (A : Around) (outer : List Env) (s : Shared) (H : Hp) (vs : List V) (Q : VK) (E : XK), Room k (A.deeper (envOfC qual scope s.heap.objs.size f cdv)) → sp vs H Q E →
      ∃ t, PSs (cxOf CX P w K mg base N qual scope f cdv A outer s H E) body t ∧ t { nx := fun _ H' => Q .non H', rt := Q } (start N vs) H) :
    FnOk P w K mg base CX (k + 1) f (PySem.W.fnOf name qual params body scope dV kV doc pm an cdv ct) ps sp := by
  refine ⟨len, fun A outer s H args us vs Q E hr e0 hb r hsp => ?_⟩
  have hl := len _ _ _ _ hsp
  have KX : K.In s.heap := e0.mod.kin.keeps fun b o e => (e0.bs b o e).1
  have lim : s.heap.NoLimit := e0.mod.nolimit.keeps fun b o e => (e0.bs b o e).1
  have hkind : ∀ y ∈ ps.zip us, scope.names.lookup y.1 = some .local ∨ (scope.names.lookup y.1 = some .cell ∧ ((cellsFrom (s.heap.objs.size + 1) scope.names []).lookup y.1).isSome = true) := fun ⟨n, v⟩ hy => by
    rcases S.par n (List.of_mem_zip hy).1 with q | q
    · exact .inl q
    · exact .inr ⟨q, PySem.W.cellsFrom_some _ _ _ (.inl q)⟩
  refine codeAny_call_function hr.depth (KX _ _ lk) rfl S.co S.gen rfl (PySem.W.codeRec_of KX hcd) (hb _ _ _ _ ?_)
  refine wpAny_newFunctionEnv_cells S.kind hkind fun env he s1 x => ?_
  subst he
  refine ⟨lim.keeps x.toInCall.keep, codeAny_func ?_⟩
  obtain ⟨t, ht, hq⟩ := hbody A outer s H vs Q E (hr.deeper _) hsp
  have I : Inv (cxOf CX P w K mg base N qual scope f cdv A outer s H E) [] (start N vs) H s1 := inv_start S hr.hd e0 hl r x
  refine wpAny_mono (ht [] s1 (start N vs) H _ I hq) (fun fl s' hs => ?_) fun e s' hs => hs
  have fin : ∀ {σ' : St} {H' : Hp} {v : V} {u : Value}, Inv (cxOf CX P w K mg base N qual scope f cdv A outer s H E) [] σ' H' s' → RelV v u → Q v H' → CE outer P w H s Q u s' :=
    fun {σ' H' v u} J rv q => ⟨v, H', J.os, J.bare, J.base, J.hok, rv, q⟩
  cases fl with
  | ret u =>
    obtain ⟨v, σ', H', J, rv, q⟩ := hs
    exact fin J rv q
  | next =>
    obtain ⟨σ', H', J, q⟩ := hs
    exact fin (v := V.non) (u := Value.none) J rfl q
  | brk =>
    obtain ⟨_, _, _, q⟩ := hs
    exact False.elim q
  | cont =>
    obtain ⟨_, _, _, q⟩ := hs
    exact False.elim q
end L2
namespace L2
open PySem PySem.Spec PyProof.Rows
section
variable {X : Cx} {x : Str} {p pos : Pos} {e : Expr} {es : List Expr} {t : TA} {id T : String} {r : List V → Hp → VK → Prop}
noncomputable def tCB (r : List V → Hp → VK → Prop) (t : TA) : TE := fun σ H Q => t σ H fun vs H1 => r vs H1 Q
theorem pe_callB (hc : CallR X (.builtin id) r) (hg : Gl X x) (hm : X.mg x = none) (hv : bootBuiltins x = some (.builtin id)) (ha : PA X (e :: es) t) (hn : x ≠ "__name__" := by decide) (hdb : (x == ("__debug__" : Str)) = false := by decide)
    (he : starEach (e :: es) X.env = (false, eval e X.env) :: starEach es X.env := by rfl) (hpl : (backTo pos (starEach es X.env)).any (·.1) = false := by rfl) : PE X (.Call (.Name x p) (e :: es) [] pos) (tCB r t) := by
  intro pins s σ H Q I h
  refine wpAny_Call_Name_kw (ld_blt I hg hm hv ?_ hn hdb)
  exact PyProof.Rows.callWith_builtin1 (thn (ha pos pins s σ H _ I h) fun us s1 ⟨vs, H1, I1, r1, q1⟩ => hc pins s1 σ H1 vs us Q I1 r1 q1) he hpl
theorem pe_callTy (hc : CallR X (.type T) r) (hg : Gl X x) (hm : X.mg x = none) (hv : bootBuiltins x = some (.type T)) (ha : PA X (e :: es) t) (hn : x ≠ "__name__" := by decide) (hdb : (x == ("__debug__" : Str)) = false := by decide)
    (he : starEach (e :: es) X.env = (false, eval e X.env) :: starEach es X.env := by rfl) (hpl : (backTo pos (starEach es X.env)).any (·.1) = false := by rfl) : PE X (.Call (.Name x p) (e :: es) [] pos) (tCB r t) := by
  intro pins s σ H Q I h
  refine wpAny_Call_Name_kw (ld_blt I hg hm hv ?_ hn hdb)
  exact PyProof.Rows.callWith_type1 (thn (ha pos pins s σ H _ I h) fun us s1 ⟨vs, H1, I1, r1, q1⟩ => hc pins s1 σ H1 vs us Q I1 r1 q1) he hpl
end
end L2
namespace HT
open PySem PyProof.Rows
noncomputable def lexLt : List Int → List Int → Bool
  | [], [] => false
  | [], _ :: _ => true
  | _ :: _, [] => false
  | x :: xs, y :: ys => if x = y then lexLt xs ys else decide (x < y)
section
open PySem.SeqAt
open PySem.AutoSeq1 (wpAny_loadPart')
open PySem.MeetsSeq PySem.MeetsSeq2 PySem.MeetsSeq3
end
section
variable {prog : Program} {w : World} {A : Around} {E : Value → Shared → Prop} {s : Shared}
noncomputable def sIx (n d : Nat) : Option Int → Nat
  | none => d
  | some v => if v < 0 then (v + (n : Int)).toNat else min v.toNat n
end
end HT
namespace L2
open PySem PySem.Spec PyProof.Rows
noncomputable abbrev TO := St → Hp → (Option Int → Hp → Prop) → Prop
noncomputable def PO (X : Cx) (e : Option Expr) (t : TO) : Prop :=
  ∀ (pins : List (Addr × Obj)) (s : Shared) (σ : St) (H : Hp) (Q : Option Int → Hp → Prop), Inv X pins σ H s → t σ H Q →
    wpAny (model X.prog X.w) X.A (evalPart e X.env) (fun u s' => ∃ o H', Inv X pins σ H' s' ∧ IsPart u o ∧ Q o H') X.xe s
noncomputable def tNoPart : TO := fun _ H Q => Q none H
noncomputable def tPart (t : TE) : TO := fun σ H Q => t σ H fun x H1 => ∃ i, x = .int i ∧ Q (some i) H1
section
variable {X : Cx} {e : Expr} {te : TE} {lo hi : Option Expr} {tl th : TO} {pos p2 : Pos}
theorem po_none : PO X none tNoPart := by
  intro pins s σ H Q I h
  rw [evalPart_none]
  exact wpAny_pure ⟨none, H, I, .none, h⟩
theorem po_some (h : PE X e te) : PO X (some e) (tPart te) := by
  intro pins s σ H Q I hw
  rw [evalPart_some]
  refine thn (h pins s σ H _ I hw) fun u s1 ⟨x, H1, I1, r1, q1⟩ => ?_
  obtain ⟨i, rfl, q⟩ := q1
  obtain ⟨t, rfl⟩ := r1
  exact ⟨some i, H1, I1, .int i t, q⟩
noncomputable def SlR (X : Cx) (r : V → Option Int → Option Int → Hp → VK → Prop) : Prop :=
  ∀ (pins : List (Addr × Obj)) (s : Shared) (σ : St) (H : Hp) (x : V) (v vl vu : Value) (lo hi : Option Int) (sl : Addr) (Q : VK), Inv X pins σ H s → RelV x v → s.heap.IsSliceOf sl vl vu .none → IsPart vl lo → IsPart vu hi → r x lo hi H Q →
    ∃ T id, typeLookup (.type T) "__getitem__" = pure (some (.builtin id)) ∧ s.TypeIs v T ∧ wpAny (model X.prog X.w) X.A (getItem v (.ref sl)) (EP X pins σ Q) X.xe s
noncomputable def tSl (r : V → Option Int → Option Int → Hp → VK → Prop) (te : TE) (tl th : TO) : TE := fun σ H Q => te σ H fun x H1 => tl σ H1 fun l H2 => th σ H2 fun u H3 => r x l u H3 Q
theorem pe_slice {r : V → Option Int → Option Int → Hp → VK → Prop} (hr : SlR X r) (he : PE X e te) (hl : PO X lo tl) (hu : PO X hi th) : PE X (.Subscript e (.Slice lo hi none p2) pos) (tSl r te tl th) := by
  intro pins s σ H Q I h
  refine Subscript_ (thn (he pins s σ H _ I h) fun v s1 ⟨x, H1, I1, r1, q1⟩ => ?_)
  refine wpAny_Slice (thn (hl pins s1 σ H1 _ I1 q1) fun vl s2 ⟨l, H2, I2, pl, q2⟩ => thn (hu pins s2 σ H2 _ I2 q2) fun vu s3 ⟨u, H3, I3, pu, q3⟩ => ?_)
  rw [evalPart_none]
  refine wpAny_pure ?_
  have I4 : Inv X pins σ H3 { s3 with heap := s3.heap.push { cls := .type "slice", data := .fields #[vl, vu, .none] } } := I3.kept (t' := s3.toks) fun b ob q => Heap.get?_push_of_some _ q
  obtain ⟨T, id, hT, ht, hg⟩ := hr pins { s3 with heap := s3.heap.push { cls := .type "slice", data := .fields #[vl, vu, .none] } } σ H3 x v vl vu l u s3.heap.objs.size Q I4 r1 (Heap.IsSliceOf.new ..) pl pu q3
  show wpAny (model X.prog X.w) X.A (subscriptTail e (.Slice lo hi none p2) v (.ref s3.heap.objs.size)) (EP X pins σ Q) X.xe { s3 with heap := s3.heap.push { cls := .type "slice", data := .fields #[vl, vu, .none] } }
  exact tail_any (ops := [.ref s3.heap.objs.size, v]) ht hT hg (by with_unfolding_all rfl)
noncomputable def cutV (xs : List V) (lo hi : Option Int) : List V := (xs.drop (HT.sIx xs.length 0 lo)).take (HT.sIx xs.length xs.length hi - HT.sIx xs.length 0 lo)
theorem cutV_length (xs : List V) (lo hi : Option Int) : (cutV xs lo hi).length ≤ xs.length := by
  unfold cutV
  rw [List.length_take, List.length_drop]
  omega
noncomputable def rSlT (K : PySem.W.Frag) : V → Option Int → Option Int → Hp → VK → Prop := fun x lo hi H Q => ∃ a xs, x = .ref a ∧ SqT K H a xs ∧
  ¬ (HT.sIx xs.length 0 lo = 0 ∧ HT.sIx xs.length xs.length hi = xs.length) ∧ ∀ p, H p = none → Q (.ref p) (upd H p (.tup (cutV xs lo hi)))
noncomputable def rLtT (K : PySem.W.Frag) : R2 := fun x y H Q => ∃ a b ns ms, x = .ref a ∧ y = .ref b ∧ SqT K H a (ns.map V.int) ∧ SqT K H b (ms.map V.int) ∧ Q (.bl (HT.lexLt ns ms)) H
noncomputable def rCatT (K : PySem.W.Frag) : R2 := fun x y H Q => ∃ a b xs ys, x = .ref a ∧ y = .ref b ∧ SqT K H a xs ∧ SqT K H b ys ∧ xs ≠ [] ∧ xs.length + ys.length ≤ sizeLine ∧
  (ys = [] → Q (.ref a) H) ∧ (ys ≠ [] → ∀ p, H p = none → Q (.ref p) (upd H p (.tup (xs ++ ys))))
end
end L2
namespace L2
open PySem PySem.Spec PyProof.Rows
noncomputable def ixN (n : Nat) (i : Int) : Option Nat := if 0 ≤ i then (if i < n then some i.toNat else none) else if -(n : Int) ≤ i then some (i + n).toNat else none
noncomputable def atI {α : Type} (xs : List α) (i : Int) : Option α := (ixN xs.length i).bind fun j => xs[j]?
theorem ixN_seq {n : Nat} {i : Int} {j : Nat} (h : ixN n i = some j) : seqIndex? i n = some j ∧ j < n ∧ -(n : Int) ≤ i ∧ i < n := by
  unfold ixN at h
  by_cases h0 : 0 ≤ i
  · rw [if_pos h0] at h
    by_cases h1 : i < n
    · rw [if_pos h1] at h
      have e : i.toNat = j := Option.some.inj h
      exact ⟨by rw [seqIndex_of h0 h1, e], by omega, by omega, h1⟩
    · rw [if_neg h1] at h; cases h
  · rw [if_neg h0] at h
    by_cases h1 : -(n : Int) ≤ i
    · rw [if_pos h1] at h
      have e : (i + n).toNat = j := Option.some.inj h
      exact ⟨by rw [seqIndex_neg (by omega) h1, e], by omega, h1, by omega⟩
    · rw [if_neg h1] at h; cases h
theorem atI_get {α : Type} {xs : List α} {i : Int} {v : α} (h : atI xs i = some v) : ∃ j, seqIndex? i xs.length = some j ∧ xs[j]? = some v ∧ j < xs.length ∧ -(xs.length : Int) ≤ i ∧ i < xs.length := by
  unfold atI at h
  cases e : ixN xs.length i with
  | none => rw [e] at h; cases h
  | some j =>
    rw [e] at h
    obtain ⟨h1, h2, h3, h4⟩ := ixN_seq e
    exact ⟨j, h1, h, h2, h3, h4⟩
noncomputable def PlainIx (b : Expr) : Prop := ∀ o i, subscripted b false o i = operate [o, i] (getItem o i)
noncomputable def IxR (X : Cx) (r : R2) : Prop :=
  ∀ (value slice : Expr) (pins : List (Addr × Obj)) (s : Shared) (σ : St) (H : Hp) (x y : V) (v u : Value) (Q : VK), Inv X pins σ H s → RelV x v → RelV y u → r x y H Q →
    subscripted slice false v u = operate [v, u] (getItem v u) → wpAny (model X.prog X.w) X.A (subscriptTail value slice v u) (EP X pins σ Q) X.xe s
noncomputable def MtR (X : Cx) (id : String) (r : V → List V → Hp → VK → Prop) : Prop :=
  ∀ (pins : List (Addr × Obj)) (s : Shared) (σ : St) (H : Hp) (x : V) (xs : List V) (v : Value) (us : List Value) (Q : VK), Inv X pins σ H s → RelV x v → Vals xs us → r x xs H Q →
    wpAny (model X.prog X.w) X.A (call (.builtin id) (v :: us)) (EP X pins σ Q) X.xe s
section
variable {X : Cx} {a b : Expr} {ta tb : TE} {pos : Pos}
theorem pe_ix {r : R2} (hr : IxR X r) (ha : PE X a ta) (hb : PE X b tb) (hs : PlainIx b) : PE X (.Subscript a b pos) (tOp r ta tb) := by
  intro pins s σ H Q I h
  exact Subscript_ (binT ha hb I h fun v u s2 x y H2 I2 rx ry q => hr a b pins s2 σ H2 x y v u Q I2 rx ry q (hs _ _))
noncomputable def rIxL (K : PySem.W.Frag) : R2 := fun x y H Q => ∃ p xs i v, x = .ref p ∧ y = .int i ∧ SqL K H p xs ∧ atI xs i = some v ∧ Q v H
noncomputable def rIxT (K : PySem.W.Frag) : R2 := fun x y H Q => ∃ p xs i v, x = .ref p ∧ y = .int i ∧ SqT K H p xs ∧ atI xs i = some v ∧ Q v H
noncomputable def rIxS : R2 := fun x y H Q => ∃ z i c, x = .str z ∧ y = .int i ∧ z.length ≤ sizeLine ∧ atI z.cps.toList i = some c ∧ Q (.str ⟨#[c]⟩) H
theorem ix_list : IxR X (rIxL X.K) := by
  intro value slice pins s σ H x y v u Q I rx ry h hs
  obtain ⟨p, xs, i, z, rfl, rfl, hq, he, q⟩ := h
  cases rx
  obtain ⟨t, rfl⟩ := ry
  obtain ⟨its, r, pl, hz⟩ := I.list hq
  obtain ⟨j, h1, h2, h3, h4, h5⟩ := atI_get he
  obtain ⟨w, ew, rw'⟩ := r.get h2
  have hl := r.length
  have hn := line63
  have fin : EP X pins σ Q w s := ⟨z, H, I, rw', q⟩
  by_cases h0 : 0 ≤ i
  · have hj : i.toNat = j := by
      rw [seqIndex_of h0 h5] at h1
      exact Option.some.inj h1
    exact item_listR pl.isList h0 (by omega) (by rw [hj]; simpa using ew) fin hs
  · have hj : (i + (its.toArray.size : Int)).toNat = j := by
      rw [seqIndex_neg (by omega) h4] at h1
      rw [List.size_toArray, ← hl]
      exact Option.some.inj h1
    exact subscriptTail_builtinR (x := w) pl.isList.typeIs slot_list_getitem.lookup
      (wpAny_getItem_list_neg (Q := fun r s' => r = w ∧ EP X pins σ Q r s') pl.isList (by omega) (by rw [List.size_toArray] <;> omega) (by omega) (by rw [hj]; simpa using ew) ⟨rfl, fin⟩) hs
theorem ix_tup : IxR X (rIxT X.K) := by
  intro value slice pins s σ H x y v u Q I rx ry h hs
  obtain ⟨p, xs, i, z, rfl, rfl, hq, he, q⟩ := h
  cases rx
  obtain ⟨t, rfl⟩ := ry
  obtain ⟨its, r, pl, hz⟩ := I.tuple hq
  obtain ⟨j, h1, h2, h3, h4, h5⟩ := atI_get he
  obtain ⟨w, ew, rw'⟩ := r.get h2
  have hl := r.length
  have hn := line63
  have fin : EP X pins σ Q w s := ⟨z, H, I, rw', q⟩
  exact subscriptTail_builtinR (x := w) pl.typeIs slot_tuple_getitem.lookup
    (getItem_tuple (j := j) (Q := fun r s' => r = w ∧ EP X pins σ Q r s') pl (by omega) (by omega) (by rw [List.size_toArray, ← hl]; exact h1) (by simpa using ew) ⟨rfl, fin⟩) hs
noncomputable def rIx (K : PySem.W.Frag) : R2 := fun x y H Q => rIxL K x y H Q ∨ rIxT K x y H Q ∨ rIxS x y H Q
theorem mapSeq_set (its : List Value) (n j : Nat) (u : Value) : Obj.mapSeq (·.setIfInBounds j u) { cls := .type "list", data := .seq its.toArray n } = { cls := .type "list", data := .seq (its.set j u).toArray n } := by
  simp [Obj.mapSeq]
theorem Inv.lst {pins : List (Addr × Obj)} {σ : St} {H : Hp} {s : Shared} {p : Addr} {xs : List V} (I : Inv X pins σ H s) (h : H p = some (.lst xs)) :
    ∃ (its : List Value) (n : Nat), Vals xs its ∧ s.heap.get? p = some { cls := .type "list", data := .seq its.toArray n } ∧ xs.length ≤ sizeLine := by
  obtain ⟨z, its, n, r, e⟩ := I.hok p _ h
  exact ⟨its, n, r, e, z⟩
theorem Inv.lstUpd {pins : List (Addr × Obj)} {σ : St} {H : Hp} {s : Shared} {p : Addr} {xs ys : List V} {its its' : List Value} {n n' : Nat} {f : Obj → Obj} (I : Inv X pins σ H s) (h : H p = some (.lst xs))
    (ho : s.heap.get? p = some { cls := .type "list", data := .seq its.toArray n }) (hf : f { cls := .type "list", data := .seq its.toArray n } = { cls := .type "list", data := .seq its'.toArray n' }) (r : Vals ys its') (hz : ys.length ≤ sizeLine) (t : Nat) :
    Inv X pins σ (upd H p (.lst ys)) { s with heap := s.heap.update p f, toks := t } := by
  have e : (s.heap.update p f).get? p = some { cls := .type "list", data := .seq its'.toArray n' } := by
    rw [Heap.get?_update_self f ho (by rw [hf] <;> rfl), hf]
  refine I.write (x := p) (e := p) (by rw [h]; trivial) (.inl rfl) (fun b u hb q => (Heap.get?_update_other _ _ (Ne.symm hb)).trans q) ⟨_, e⟩ ?_
  exact ⟨hz, its', n', r, e⟩
noncomputable def rSetL : V → V → V → Hp → (Hp → Prop) → Prop := fun o i v H Q => ∃ p xs k j, o = .ref p ∧ i = .int k ∧ H p = some (.lst xs) ∧ ixN xs.length k = some j ∧ Q (upd H p (.lst (xs.set j v)))
theorem set_list : PSet X rSetL := by
  intro pins s σ H o i v ov iv u Q I ro ri rv h
  obtain ⟨p, xs, k, j, rfl, rfl, hp, hj, q⟩ := h
  cases ro
  obtain ⟨t, rfl⟩ := ri
  obtain ⟨its, n, r, ho, hz⟩ := I.lst hp
  obtain ⟨h1, h2, h3, h4⟩ := ixN_seq hj
  have hl := r.length
  have hn := line63
  have I' : Inv X pins σ (upd H p (.lst (xs.set j v))) { s with heap := s.heap.update p (Obj.mapSeq (·.setIfInBounds j u)) } :=
    I.lstUpd hp ho (mapSeq_set its n j u) (r.set rv j) (by rw [List.length_set]; exact hz) s.toks
  by_cases h0 : 0 ≤ k
  · have hk : k.toNat = j := by
      rw [seqIndex_of h0 h4] at h1
      exact Option.some.inj h1
    exact PySem.W.ki_setAt ho h0 (by omega) (by rw [List.size_toArray, ← hl]; exact h4) (by rw [hk]; exact ⟨_, I', q⟩)
  · have hk : (k + (its.toArray.size : Int)).toNat = j := by
      rw [seqIndex_neg (by omega) h3] at h1
      rw [List.size_toArray, ← hl]
      exact Option.some.inj h1
    exact PySem.W.ki_setBack ho (by omega) (by rw [List.size_toArray, ← hl]; exact h3) (by omega) (by rw [hk]; exact ⟨_, I', q⟩)
theorem slice_bounds (lo hi : Option Int) (n : Nat) : (sliceBounds lo hi none n).1 = ((HT.sIx n 0 lo : Nat) : Int) ∧ (sliceBounds lo hi none n).2.1 = ((HT.sIx n n hi : Nat) : Int) ∧ (sliceBounds lo hi none n).2.2 = 1 := by
  refine ⟨?_, ?_, rfl⟩
  · cases lo with
    | none => simp [sliceBounds, HT.sIx]
    | some i =>
      simp only [sliceBounds, HT.sIx, Option.getD_none, show (1 : Int) > 0 by decide, if_true]
      by_cases h : i < 0
      · simp only [h, if_true] <;> omega
      · simp only [h, if_false] <;> omega
  · cases hi with
    | none => simp [sliceBounds, HT.sIx]
    | some i =>
      simp only [sliceBounds, HT.sIx, Option.getD_none, show (1 : Int) > 0 by decide, if_true]
      by_cases h : i < 0
      · simp only [h, if_true] <;> omega
      · simp only [h, if_false] <;> omega
theorem slicePick_cut (its : List Value) (lo hi : Option Int) : slicePick its.toArray lo hi none = ((its.drop (HT.sIx its.length 0 lo)).take (HT.sIx its.length its.length hi - HT.sIx its.length 0 lo)).toArray := by
  obtain ⟨h1, h2, h3⟩ := slice_bounds lo hi its.toArray.size
  unfold slicePick
  rw [h1, h2, h3]
  simp only [sliceRange_one, pick_run, List.size_toArray] <;> rfl
noncomputable def rSlL (K : PySem.W.Frag) : V → Option Int → Option Int → Hp → VK → Prop := fun x lo hi H Q => ∃ a xs, x = .ref a ∧ SqL K H a xs ∧ ∀ p, H p = none → Q (.ref p) (upd H p (.lst (cutV xs lo hi)))
theorem sl_list : SlR X (rSlL X.K) := by
  intro pins s σ H x v vl vu lo hi sl Q I rx hs pl pu h
  obtain ⟨a, xs, rfl, hx, q⟩ := h
  cases rx
  obtain ⟨its, r, ht, hz⟩ := I.list hx
  have hlen := r.length
  refine ⟨"list", _, slot_list_getitem.lookup, ht.isList.typeIs, ?_⟩
  refine wpAny_getItem_list_slice ht.isList hs pl pu .none (by simp) ?_ (by rw [List.size_toArray] <;> omega)
  rw [slicePick_cut, ← hlen]
  refine ⟨.ref s.heap.objs.size, _, I.laid (t' := s.toks) (o := .lst (cutV xs lo hi)) (fun b ob q => Heap.get?_push_of_some _ q) (Nat.le_refl _) ?_, rfl, q _ (I.hok.fresh (Nat.le_refl _))⟩
  exact ⟨Nat.le_trans (cutV_length xs lo hi) hz, _, 0, (r.drop (HT.sIx xs.length 0 lo)).take (HT.sIx xs.length xs.length hi - HT.sIx xs.length 0 lo), Heap.get?_push_size _ rfl⟩
noncomputable def flatV : V → Bool
  | .non => true
  | .bl _ => true
  | .int _ => true
  | .str _ => true
  | _ => false
noncomputable def eqV : V → V → Bool
  | .non, .non => true
  | .bl a, .bl b => a == b
  | .bl a, .int b => (if a then 1 else 0) == b
  | .int a, .bl b => a == (if b then 1 else 0)
  | .int a, .int b => a == b
  | .str a, .str b => a == b
  | _, _ => false
theorem eqAt_V {A : Around} {s : Shared} {y x : V} {u v : Value} (ry : RelV y u) (rx : RelV x v) (fy : flatV y = true) (fx : flatV x = true) : SeqAt.EqAt A s u v (eqV y x) := by
  cases y with
  | non =>
    cases ry
    cases x with
    | non => cases rx; exact SeqAt.EqAt.same _
    | bl b => cases rx; exact SeqAt.EqAt.none_bool b
    | int b => obtain ⟨t, rfl⟩ := rx; exact SeqAt.EqAt.none_int b t
    | str b => obtain ⟨t, rfl⟩ := rx; exact SeqAt.EqAt.none_str b t
    | _ => exact absurd (show false = true from fx) Bool.false_ne_true
  | bl a =>
    cases ry
    cases x with
    | non => cases rx; exact SeqAt.EqAt.bool_none a
    | bl b => cases rx; exact SeqAt.EqAt.bool_bool a b
    | int b => obtain ⟨t, rfl⟩ := rx; exact SeqAt.EqAt.bool_int a b t
    | str b => obtain ⟨t, rfl⟩ := rx; exact SeqAt.EqAt.bool_str a b t
    | _ => exact absurd (show false = true from fx) Bool.false_ne_true
  | int a =>
    obtain ⟨t', rfl⟩ := ry
    cases x with
    | non => cases rx; exact SeqAt.EqAt.int_none a t'
    | bl b => cases rx; exact SeqAt.EqAt.int_bool a t' b
    | int b => obtain ⟨t, rfl⟩ := rx; exact SeqAt.EqAt.int_int a t' b t
    | str b => obtain ⟨t, rfl⟩ := rx; exact SeqAt.EqAt.int_str a t' b t
    | _ => exact absurd (show false = true from fx) Bool.false_ne_true
  | str a =>
    obtain ⟨t', rfl⟩ := ry
    cases x with
    | non => cases rx; exact SeqAt.EqAt.str_none a t'
    | bl b => cases rx; exact SeqAt.EqAt.str_bool a t' b
    | int b => obtain ⟨t, rfl⟩ := rx; exact SeqAt.EqAt.str_int a t' b t
    | str b => obtain ⟨t, rfl⟩ := rx; exact SeqAt.EqAt.str_str a t' b t
    | _ => exact absurd (show false = true from fx) Bool.false_ne_true
  | _ => exact absurd (show false = true from fy) Bool.false_ne_true
noncomputable def eqU (x : V) (u : Value) : Bool := match u with
  | .none => eqV .non x
  | .bool b => eqV (.bl b) x
  | .int i _ => eqV (.int i) x
  | .str z _ => eqV (.str z) x
  | _ => false
noncomputable def inV (x : V) (xs : List V) : Bool := xs.any fun y => eqV y x
noncomputable def rIn (K : PySem.W.Frag) (neg : Bool) : R2 := fun x y H Q => ∃ p xs, y = .ref p ∧ (SqL K H p xs ∨ SqT K H p xs) ∧ flatV x = true ∧ xs.all flatV = true ∧ Q (.bl (if neg then !inV x xs else inV x xs)) H
theorem call_len_seq : CallR X (.builtin "len") (fun xs H Q => ∃ p ys, xs = [.ref p] ∧ (SqL X.K H p ys ∨ SqT X.K H p ys) ∧ Q (.int ys.length) H) := by
  intro pins s σ H xs us Q I r h
  obtain ⟨p, ys, rfl, hq, q⟩ := h
  obtain ⟨u, rfl, rx⟩ := vals1 r
  cases rx
  have hn := line63
  rcases hq with hq | hq
  · obtain ⟨its, r', pl, hz⟩ := I.list hq
    have hlen := r'.length
    exact Calls.call_len_list pl.isList (by simp only [List.size_toArray] <;> omega) ⟨.int ys.length, H, I.tok _, ⟨s.toks + 1, by rw [List.size_toArray, hlen]⟩, q⟩
  · obtain ⟨its, r', pl, hz⟩ := I.tuple hq
    have hlen := r'.length
    exact len_tuple pl (by simp only [List.size_toArray] <;> omega) ⟨.int ys.length, H, I.tok _, ⟨s.toks + 1, by rw [List.size_toArray, hlen]⟩, q⟩
theorem call_list_of : CallR X (.type "list") (fun xs H Q => ∃ p ys, xs = [.ref p] ∧ (SqL X.K H p ys ∨ SqT X.K H p ys) ∧ ∀ l, H l = none → Q (.ref l) (upd H l (.lst ys))) := by
  intro pins s σ H xs us Q I r h
  obtain ⟨p, ys, rfl, hq, q⟩ := h
  obtain ⟨u, rfl, rx⟩ := vals1 r
  cases rx
  have fin : ∀ (its : List Value), Vals ys its → ys.length ≤ sizeLine → ∀ (h' : Heap) (c' : Nat), (∀ b o', s.heap.get? b = some o' → h'.get? b = some o') →
      h'.get? s.heap.objs.size = some { cls := .type "list", dict := none, data := .seq its.toArray c', slots := #[] } → EP X pins σ Q (.ref s.heap.objs.size) { s with heap := h' } := fun its r' hz h' c' kp e =>
    ⟨.ref s.heap.objs.size, _, I.laid (t' := s.toks) kp (Nat.le_refl _) (show ObjOk X.prog X.w _ h' _ (.lst ys) from ⟨hz, its, c', r', e⟩), rfl, q _ (I.hok.fresh (Nat.le_refl _))⟩
  rcases hq with hq | hq
  · obtain ⟨its, r', pl, hz⟩ := I.list hq
    have hlen := r'.length
    obtain ⟨o, ho, hc, n, hd⟩ := pl.isList
    exact call_list_seq p (.inl rfl) ho hc hd (fun h' c' kp e => fin its r' hz h' c' kp e) (by simp only [List.size_toArray] <;> omega)
  · obtain ⟨its, r', pl, hz⟩ := I.tuple hq
    have hlen := r'.length
    obtain ⟨o, ho, hc, n, hd⟩ := pl
    exact call_list_seq p (.inr rfl) ho hc hd (fun h' c' kp e => fin its r' hz h' c' kp e) (by simp only [List.size_toArray] <;> omega)
noncomputable def tyV (K : PySem.W.Frag) (T : String) (x : V) (H : Hp) : Prop := match x with
  | .str _ => T = "str"
  | .int _ => T = "int"
  | .ref p => (T = "list" ∧ ∃ xs, SqL K H p xs) ∨ (T = "tuple" ∧ ∃ o, K.lookup p = some o ∧ o.cls = .type "tuple" ∧ o.dict = none) ∨
      (T = "dict" ∧ ((∃ kvs, H p = some (.dK kvs)) ∨ ∃ kvs, H p = some (.dT kvs))) ∨ (T = "set" ∧ ∃ S n, H p = some (.set S n))
  | _ => False
theorem tyV_is {pins : List (Addr × Obj)} {σ : St} {H : Hp} {s : Shared} {T : String} {x : V} {v : Value} (I : Inv X pins σ H s) (r : RelV x v) (ty : tyV X.K T x H) :
    s.TypeIs v T ∧ ∀ a, v = .ref a → ∃ ob, s.heap.get? a = some ob ∧ ob.dict = none := by
  cases x with
  | str z =>
    obtain ⟨t, rfl⟩ := r
    cases (show T = "str" from ty)
    exact ⟨typeIs_str s z t, fun _ e => nomatch e⟩
  | int i =>
    obtain ⟨t, rfl⟩ := r
    cases (show T = "int" from ty)
    exact ⟨typeIs_int s i t, fun _ e => nomatch e⟩
  | ref p =>
    cases r
    rcases ty with ⟨rfl, xs, hq⟩ | ⟨rfl, o, hk, hc, hd⟩ | ⟨rfl, hk⟩ | ⟨rfl, S, n, hk⟩
    · obtain ⟨its, _, pl, _⟩ := I.list hq
      refine ⟨pl.isList.typeIs, fun a e => ?_⟩
      cases e
      obtain ⟨o, n, e, c, hd, _⟩ := pl
      exact ⟨o, e, hd⟩
    · refine ⟨⟨o, I.kIn p o hk, hc⟩, fun a e => ?_⟩
      cases e
      exact ⟨o, I.kIn _ o hk, hd⟩
    · have z : ∃ o, s.heap.get? p = some o ∧ o.ExactDict := by
        rcases hk with ⟨kvs, hk⟩ | ⟨kvs, hk⟩
        · obtain ⟨_, _, _, _, o, _, _, e, ex, _⟩ := I.hok p _ hk
          exact ⟨o, e, ex⟩
        · obtain ⟨_, _, _, _, o, _, _, e, ex, _⟩ := I.hok p _ hk
          exact ⟨o, e, ex⟩
      obtain ⟨o, e, ex⟩ := z
      refine ⟨⟨o, e, ex.1⟩, fun a e2 => ?_⟩
      cases e2
      exact ⟨o, e, ex.2.1⟩
    · obtain ⟨o, _, _, _, e, ex, _⟩ := I.hok p _ hk
      refine ⟨⟨o, e, ex.1⟩, fun a e2 => ?_⟩
      cases e2
      exact ⟨o, e, ex.2.1⟩
  | _ => exact False.elim ty
noncomputable def tBM0 (K : PySem.W.Frag) (T : String) (r : V → List V → Hp → VK → Prop) (to : TE) : TE := fun σ H Q => to σ H fun x H1 => tyV K T x H1 ∧ r x [] H1 Q
noncomputable def tBM (K : PySem.W.Frag) (T : String) (r : V → List V → Hp → VK → Prop) (to : TE) (t : TA) : TE := fun σ H Q => to σ H fun x H1 => tyV K T x H1 ∧ t σ H1 fun xs H2 => r x xs H2 Q
variable {o e : Expr} {es : List Expr} {to : TE} {t : TA} {name : Str} {apos cpos : Pos} {T id : String} {r : V → List V → Hp → VK → Prop}
theorem pe_bm0 (pa : PlainAttrs T) (slot : Slot T name id) (hty : typeOf (.builtin id) = pure (.type "method_descriptor")) (hm : MtR X id r) (ho : PE X o to)
    (hbase : attributeBase o name X.env (eval o X.env) = eval o X.env := by rfl) (hline : (apos.endLine == cpos.line) = true := by rfl) : PE X (.Call (.Attribute o name apos) [] [] cpos) (tBM0 X.K T r to) := by
  intro pins s σ H Q I h
  refine wpAny_Call_method0_late hbase hline (thn (ho pins s σ H _ I h) fun v s1 ⟨x, H1, I1, r1, ty, q1⟩ => ?_)
  obtain ⟨h1, h2⟩ := tyV_is I1 r1 ty
  exact ⟨T, id, pa, slot, hty, h1, h2, Calls.callWith_builtin rfl (PySem.evalArgs_none (hm pins s1 σ H1 x [] v [] Q I1 r1 .nil q1))⟩
theorem pe_bm (pa : PlainAttrs T) (slot : Slot T name id) (hty : typeOf (.builtin id) = pure (.type "method_descriptor")) (hm : MtR X id r) (ho : PE X o to) (ha : PA X (e :: es) t)
    (hbase : attributeBase o name X.env (eval o X.env) = eval o X.env := by rfl)
    (hfew : ((backTo cpos (starEach (e :: es) X.env)).all (fun x => !x.1) && (backToKw cpos (keywordEach [] X.env)).all (fun x => x.1.isSome)
      && decide ((e :: es).length + ([] : List Keyword).length + (if ([] : List Keyword).isEmpty then 0 else 1) < 30)) = true := by rfl)
    (hline : (apos.endLine == cpos.line) = true := by rfl) (hs : starEach (e :: es) X.env = (false, eval e X.env) :: starEach es X.env := by rfl) (hplain : (backTo cpos (starEach es X.env)).any (·.1) = false := by rfl) :
    PE X (.Call (.Attribute o name apos) (e :: es) [] cpos) (tBM X.K T r to t) := by
  intro pins s σ H Q I h
  refine wpAny_Call_method_late hbase hfew hline rfl (thn (ho pins s σ H _ I h) fun v s1 ⟨x, H1, I1, r1, ty, q1⟩ => ?_)
  obtain ⟨h1, h2⟩ := tyV_is I1 r1 ty
  refine ⟨T, id, pa, slot, hty, h1, h2, ?_⟩
  have hA := ha cpos pins s1 σ H1 _ I1 q1
  rw [hs] at hA ⊢
  refine Calls.callWith_builtin (by show (false || (backTo cpos (starEach es X.env)).any (·.1)) = false; rw [hplain] <;> rfl) (Calls.evalArgs_plain ?_)
  exact thn hA fun us s2 ⟨vs, H2, I2, r2, q2⟩ => hm pins s2 σ H2 x vs v us Q I2 r1 r2 q2
end
end L2
namespace L2
open PySem PySem.Spec PyProof.Rows
noncomputable def MtM (X : Cx) (id : String) (r : V → List V → Hp → VK → Prop) : Prop :=
  ∀ (pins : List (Addr × Obj)) (s : Shared) (σ : St) (H : Hp) (x : V) (xs : List V) (v : Value) (us : List Value) (Q : VK), Inv X pins σ H s → RelV x v → Vals xs us → r x xs H Q →
    wpAny (model X.prog X.w) X.A (call (.builtin id) (v :: us)) (EP X pins σ Q) X.xe s
theorem Vals.one : ∀ {x : V} {us : List Value}, Vals [x] us → ∃ u, us = [u] ∧ RelV x u
  | _, _, .cons r .nil => ⟨_, rfl, r⟩
theorem Vals.zero : ∀ {us : List Value}, Vals [] us → us = []
  | _, .nil => rfl
theorem Vals.dropLast {xs : List V} {us : List Value} (h : Vals xs us) : Vals xs.dropLast us.dropLast := by
  induction h with
  | nil => exact .nil
  | cons r t ih =>
    cases t with
    | nil => exact .nil
    | cons q t' => exact .cons r ih
theorem Vals.eraseIdx : ∀ {xs : List V} {us : List Value} (i : Nat), Vals xs us → Vals (xs.eraseIdx i) (us.eraseIdx i)
  | _, _, _, .nil => .nil
  | _, _, 0, .cons _ t => t
  | _, _, i + 1, .cons r t => .cons r (Vals.eraseIdx i t)
theorem erase_last {α : Type} (l : List α) : l.eraseIdx (l.length - 1) = l.dropLast := by
  induction l with
  | nil => rfl
  | cons a r ih =>
    cases r with
    | nil => rfl
    | cons b r =>
      have e : (a :: b :: r).length - 1 = ((b :: r).length - 1) + 1 := by
        have h1 : (a :: b :: r).length = r.length + 2 := rfl
        have h2 : (b :: r).length = r.length + 1 := rfl
        omega
      rw [e, List.eraseIdx_cons_succ, ih]
      all_goals rfl
theorem len_erase {α : Type} : ∀ (l : List α) (i : Nat), (l.eraseIdx i).length ≤ l.length
  | [], _ => Nat.le_refl _
  | _ :: _, 0 => Nat.le_succ _
  | _ :: r, i + 1 => Nat.succ_le_succ (len_erase r i)
section
variable {X : Cx} {pins : List (Addr × Obj)} {σ : St} {H : Hp} {s : Shared} {l b : Addr} {xs ys zs : List V}
theorem Inv.lset {its its' : List Value} {n : Nat} {f : Array Value → Array Value} {t' : Nat} (I : Inv X pins σ H s) (hH : H l = some (.lst xs))
    (e : s.heap.get? l = some { cls := .type "list", data := .seq its.toArray n }) (hf : f its.toArray = its'.toArray) (hv : Vals ys its') (hz : ys.length ≤ sizeLine) :
    Inv X pins σ (upd H l (.lst ys)) { s with heap := s.heap.update l (Obj.mapSeq f), toks := t' } := by
  have q := PySem.IsL.update e f
  rw [hf] at q
  refine I.write (x := l) (e := l) (by rw [hH]; exact trivial) (.inl rfl) (fun b' u hb hu => (Heap.get?_update_other s.heap (Obj.mapSeq f) (Ne.symm hb)).trans hu) ⟨_, q⟩ ?_
  exact ⟨hz, its', _, hv, q⟩
theorem Inv.lnew {its : List Value} {t' : Nat} (I : Inv X pins σ H s) (hv : Vals ys its) (hz : ys.length ≤ sizeLine) :
    Inv X pins σ (upd H s.heap.objs.size (.lst ys)) { s with heap := s.heap.push { cls := .type "list", data := .seq its.toArray }, toks := t' } :=
  I.laid (fun _ _ q => Heap.get?_push_of_some _ q) (Nat.le_refl _) ⟨hz, its, 0, hv, Heap.get?_push_size _ rfl⟩
theorem Inv.fresh (I : Inv X pins σ H s) : H s.heap.objs.size = none := I.hok.fresh (Nat.le_refl _)
theorem Inv.lstM (I : Inv X pins σ H s) (hH : H l = some (.lst xs)) : xs.length ≤ sizeLine ∧ ∃ (its : List Value) (n : Nat), Vals xs its ∧ xs.length = its.length ∧ s.heap.get? l = some { cls := .type "list", data := .seq its.toArray n } := by
  obtain ⟨z, its, n, r, e⟩ := I.hok l _ hH
  exact ⟨z, its, n, r, r.length, e⟩
theorem notLongL {n : Nat} (h : n ≤ sizeLine) : Builtin.List.listTooLong n = false := by
  unfold Builtin.List.listTooLong
  exact decide_eq_false (by omega)
end
section
variable {X : Cx}
noncomputable def rAppend : V → List V → Hp → VK → Prop := fun x vs H Q => ∃ l xs y, x = .ref l ∧ vs = [y] ∧ H l = some (.lst xs) ∧ xs.length < sizeLine ∧ Q .non (upd H l (.lst (xs ++ [y])))
theorem mt_append : MtM X "list.append" rAppend := by
  intro pins s σ H x vs v us Q I rx rv h
  obtain ⟨l, xs, y, rfl, rfl, hH, hz, q⟩ := h
  cases rx
  obtain ⟨u, rfl, ru⟩ := rv.one
  obtain ⟨z, its, n, r, hl, e⟩ := I.lstM hH
  refine call_meets F.slot_list_append ⟨_, e, rfl⟩ F.entry_list_append (F.args_list_append_2 _ _) (PySem.list_append l its.toArray n u (by rw [List.size_toArray]; omega)) ⟨e, ?_⟩
  refine ⟨.non, _, I.lset (its' := its ++ [u]) hH e (by simp) (r.append (.cons ru .nil)) ?_, rfl, q⟩
  rw [List.length_append, List.length_singleton]
  omega
noncomputable def rExtend : V → List V → Hp → VK → Prop := fun x vs H Q => ∃ l b xs zs, x = .ref l ∧ vs = [.ref b] ∧ H l = some (.lst xs) ∧ H b = some (.lst zs) ∧ xs.length + zs.length ≤ sizeLine ∧ Q .non (upd H l (.lst (xs ++ zs)))
theorem mt_extend : MtM X "list.extend" rExtend := by
  intro pins s σ H x vs v us Q I rx rv h
  obtain ⟨l, b, xs, zs, rfl, rfl, hH, hB, hz, q⟩ := h
  cases rx
  obtain ⟨u, rfl, ru⟩ := rv.one
  cases ru
  obtain ⟨z, its, n, r, hl, e⟩ := I.lstM hH
  obtain ⟨z2, its2, n2, r2, hl2, e2⟩ := I.lstM hB
  have hsz : its.toArray.size + its2.toArray.size ≤ sizeLine := by rw [List.size_toArray, List.size_toArray]; omega
  have hlong : ¬ (!its.toArray.isEmpty && Builtin.List.listTooLong (its.toArray.size + its2.toArray.size)) = true := by
    rw [notLongL hsz, Bool.and_false]
    exact Bool.false_ne_true
  refine call_meets F.slot_list_extend ⟨_, e, rfl⟩ F.entry_list_extend (F.args_list_extend_2 _ _)
    (AutoSeq1.list_extend_list_list_0 l its.toArray n b its2.toArray n2 hlong (by rw [List.size_toArray]; omega) (by omega)) ⟨e, e2, ?_⟩
  refine ⟨.non, _, I.lset (its' := its ++ its2) hH e (by simp) (r.append r2) ?_, rfl, q⟩
  rw [List.length_append]
  omega
noncomputable def rPop : V → List V → Hp → VK → Prop := fun x vs H Q => ∃ l xs y, x = .ref l ∧ vs = [] ∧ H l = some (.lst xs) ∧ xs[xs.length - 1]? = some y ∧ Q y (upd H l (.lst xs.dropLast))
theorem mt_pop : MtM X "list.pop" rPop := by
  intro pins s σ H x vs v us Q I rx rv h
  obtain ⟨l, xs, y, rfl, rfl, hH, hy, q⟩ := h
  cases rx
  have hus := rv.zero
  subst hus
  obtain ⟨z, its, n, r, hl, e⟩ := I.lstM hH
  obtain ⟨u, hu, ru⟩ := r.get hy
  have hy' : its.toArray[its.toArray.size - 1]? = some u := by
    show its.toArray[its.length - 1]? = some u
    rw [← Array.getElem?_toList, ← hl]
    exact hu
  refine call_meets F.slot_list_pop ⟨_, e, rfl⟩ F.entry_list_pop (F.args_list_pop_1 _) (MeetsSeq.list_pop_last l its.toArray n u hy' (by rw [List.size_toArray]; omega)) ⟨e, ?_⟩
  refine ⟨y, _, I.lset (its' := its.dropLast) hH e ?_ r.dropLast ?_, ru, q⟩
  · show its.toArray.eraseIdxIfInBounds (its.toArray.size - 1) = its.dropLast.toArray
    rw [List.size_toArray, List.eraseIdxIfInBounds_toArray, erase_last]
  · rw [List.length_dropLast]
    omega
noncomputable def rPopAt : V → List V → Hp → VK → Prop := fun x vs H Q => ∃ l xs i k y, x = .ref l ∧ vs = [.int i] ∧ H l = some (.lst xs) ∧ -(2 ^ 63) ≤ i ∧ i < 2 ^ 63 ∧ seqIndex? i xs.length = some k ∧ xs[k]? = some y ∧ Q y (upd H l (.lst (xs.eraseIdx k)))
theorem mt_popAt : MtM X "list.pop" rPopAt := by
  intro pins s σ H x vs v us Q I rx rv h
  obtain ⟨l, xs, i, k, y, rfl, rfl, hH, h1, h2, hk, hy, q⟩ := h
  cases rx
  obtain ⟨u, rfl, ru⟩ := rv.one
  obtain ⟨t, rfl⟩ := ru
  obtain ⟨z, its, n, r, hl, e⟩ := I.lstM hH
  obtain ⟨w, hw, rw'⟩ := r.get hy
  refine call_meets F.slot_list_pop ⟨_, e, rfl⟩ F.entry_list_pop (F.args_list_pop_2 _ _)
    (MeetsSeq.list_pop_at l its.toArray n i t k w (fitsIndex_both h1 h2) (by rw [List.size_toArray, ← hl]; exact hk) (by rw [← Array.getElem?_toList]; exact hw) (by rw [List.size_toArray]; omega)) ⟨e, ?_⟩
  refine ⟨y, _, I.lset (its' := its.eraseIdx k) hH e ?_ (r.eraseIdx k) ?_, rw', q⟩
  · show its.toArray.eraseIdxIfInBounds k = (its.eraseIdx k).toArray
    rw [List.eraseIdxIfInBounds_toArray]
  · have := len_erase xs k
    omega
noncomputable def rReverse : V → List V → Hp → VK → Prop := fun x vs H Q => ∃ l xs, x = .ref l ∧ vs = [] ∧ H l = some (.lst xs) ∧ Q .non (upd H l (.lst xs.reverse))
noncomputable def rClear : V → List V → Hp → VK → Prop := fun x vs H Q => ∃ l xs, x = .ref l ∧ vs = [] ∧ H l = some (.lst xs) ∧ Q .non (upd H l (.lst []))
theorem mt_clear : MtM X "list.clear" rClear := by
  intro pins s σ H x vs v us Q I rx rv h
  obtain ⟨l, xs, rfl, rfl, hH, q⟩ := h
  cases rx
  have hus := rv.zero
  subst hus
  obtain ⟨z, its, n, r, hl, e⟩ := I.lstM hH
  refine call_meets F.slot_list_clear ⟨_, e, rfl⟩ F.entry_list_clear (F.args_list_clear_1 _) (AutoSeq1.list_clear_list_0 l its.toArray n (by rw [List.size_toArray]; omega)) ⟨e, ?_⟩
  exact ⟨.non, _, I.lset (its' := []) (ys := []) hH e rfl .nil (Nat.zero_le _), rfl, q⟩
noncomputable def rCat : R2 := fun x y H Q => ∃ l b xs zs, x = .ref l ∧ y = .ref b ∧ H l = some (.lst xs) ∧ H b = some (.lst zs) ∧ xs.length + zs.length ≤ sizeLine ∧ ∀ p, H p = none → Q (.ref p) (upd H p (.lst (xs ++ zs)))
theorem op_cat : OpR X (binaryOp .Add) rCat := by
  intro pins s σ H x y v u Q I rx ry h
  obtain ⟨l, b, xs, zs, rfl, rfl, hH, hB, hz, q⟩ := h
  cases rx
  cases ry
  obtain ⟨z, its, n, r, hl, e⟩ := I.lstM hH
  obtain ⟨z2, its2, n2, r2, hl2, e2⟩ := I.lstM hB
  refine PySem.P.add_list e e2 ?_ (by rw [List.size_toArray, List.size_toArray]; omega)
  have ea : its.toArray ++ its2.toArray = (its ++ its2).toArray := by simp
  rw [ea]
  exact ⟨.ref _, _, I.lnew (t' := s.toks) (r.append r2) (by rw [List.length_append]; omega), rfl, q _ I.fresh⟩
noncomputable def rRep : R2 := fun x y H Q => ∃ l k xs, x = .ref l ∧ y = .int k ∧ H l = some (.lst xs) ∧ -(2 ^ 63) ≤ k ∧ k < 2 ^ 63 ∧ xs.length * k.toNat ≤ sizeLine ∧
  ∀ p, H p = none → Q (.ref p) (upd H p (.lst (List.replicate k.toNat xs).flatten))
end
section
variable {prog : Program} {w : World} {A : Around} {E : Value → Shared → Prop} {s : Shared}
end
section
variable {X : Cx}
end
end L2
namespace Att
open PySem PySem.W PySem.Calls PyProof.Rows
theorem ints_of_wellAll {P : Params} {h : Heap} : ∀ (ns : List Int) (vs : List Value), WellAll P h vs (ns.map WData.int) → IntsAre vs ns := by
  intro ns
  induction ns with
  | nil =>
    intro vs w
    rw [List.map_nil] at w
    cases w
    exact .nil
  | cons n ns ih =>
    intro vs w
    rw [List.map_cons] at w
    cases w with
    | cons a b =>
      cases a
      exact .cons _ _ (ih _ b)
theorem script_of {l : OpenLaw} {n : Nat} (hn : l.most = some n) {P : Params} {h : Heap} {args : List WData} {vals : List Value}
    (hpre : l.row.toRowW.claim.pre args = true) (hwl : WellAll P h vals args) :
    ∃ a vs ns, vals = [Value.ref a] ∧ args = [WData.list (ns.map WData.int)] ∧ h.get? a = some { cls := .type "list", data := .seq vs.toArray } ∧ IntsAre vs ns ∧ ns.length ≤ n := by
  have hsh : WShape.hasAll [] args [.list .int] = true := (pre_splitW hpre).1
  have hc : l.pre.holds [] { args := args } = true := (pre_splitW hpre).2
  obtain ⟨d, r, rfl, h1, h2⟩ := hasAllW_cons hsh
  obtain rfl := hasAllW_nil h2
  obtain ⟨xs, rfl, h3⟩ := hasW_list h1
  obtain ⟨ns, rfl⟩ := items_int h3
  have hlen : ns.length ≤ n := by
    unfold OpenLaw.pre at hc
    have h4 : (WTm.not (.lt (.lit (.int (n : Int))) (.len (.arg 0)))).holds [] { args := [.list (ns.map .int)] } = true := by
      have h4 := (holds_andW hc).1
      rw [hn] at h4
      exact h4
    have h5 := condW_of h4 (w_not (w_lt w_lit (w_len_list (w_arg rfl))))
    rw [List.length_map] at h5
    refine Nat.le_of_not_lt fun q => ?_
    have q' : (n : Int) < ((ns.length : Nat) : Int) := by omega
    first
      | (rw [decide_eq_true q'] at h5; exact absurd h5 (by decide))
      | (simp at h5; omega)
  cases hwl with
  | cons w1 w2 =>
    cases w2
    cases w1 with
    | list ho hall => exact ⟨_, _, ns, rfl, rfl, ho, ints_of_wellAll ns _ hall, hlen⟩
theorem post_true (l : OpenLaw) (args : List WData) : l.row.toRowW.claim.post args (.bool true) args = true :=
  postW_of (r := l.row.toRowW) (X := (true == true))
    (show WShape.has [] (.bool true) .bool = true by first | rfl | decide | simp [WShape.has, WShape.arms, WShape.armsAll])
    (show (WTm.eq .res (.lit (.bool true))).value [] { args := args, res := some (.bool true), after := args } = some (.bool (true == true)) from w_eq_bool (w_res rfl) w_lit) rfl
theorem attach_call {l : OpenLaw} {n : Nat} {q : Program} {loose : List Str} {XP : (Str → Option Value) → Heap → Prop} {YP : World → Heap → Prop} {d : DefRec}
    (hn : l.most = some n) (hdf : d.params.defaults = [])
    (call : ∀ (w : World) (s₀ s₁ : Shared) (mg mb : Str → Option Value) (fa : Addr) (o : Obj) (pm cd doc : Value) (a : Addr) (vs : List Value) (ns : List Int),
      Ground q loose [] XP w s₀ mg mb s₁.heap → YP w s₁.heap →
      s₁.heap.get? fa = some o → o.data = .func (docDef d.name d.params d.body d.scope pm cd doc) → s₁.heap.CodeRec cd d.name → mg d.name = some (.ref fa) →
      s₁.heap.get? a = some { cls := .type "list", data := .seq vs.toArray } → IntsAre vs ns → ns.length ≤ n → s₁.gens = #[] →
      codeAny (model l.prog w) callerA (.call (.ref fa) ⟨[.ref a], []⟩) (fun r s' => r = .ok (.ret (.bool true)) ∧ OldK s₁.heap s'.heap ∧ s'.os = s₁.os ∧ AllBare s'.gens) s₁) :
    WalkO q loose XP YP l.row.toRowW d [] (fun f vs => PySem.call f vs) := by
  intro w s₀ s₁ mg mb G Y fa o pm cd doc dV kV ho hd hcd hD hmg hg args vals as hpre hlay hrd hwl hlo
  obtain rfl : dV = .none := Dflts.none hD hdf
  obtain rfl : kV = .none := Dflts.noKw hD
  obtain ⟨a, vs, ns, rfl, rfl, hobj, hints, hlen⟩ := script_of hn hpre hwl
  refine enter_call (codeAny_mono (call w s₀ s₁ mg mb fa o pm cd doc a vs ns G Y ho (fd_plain hd) hcd hmg hobj hints hlen hg) fun r s' hq => ?_)
  obtain ⟨rfl, h2, h3, h4⟩ := hq
  exact ⟨.inl ⟨.bool true, .bool true, [], rfl, fun _ => rfl, .bool true, post_true l _, fun _ => ⟨List.Pairwise.nil, fun _ hm => (nomatch hm)⟩⟩, h2, h3, h4⟩
section
variable {prog : Program} {w : World} {A : Around} {E : Value → Shared → Prop} {s : Shared} {K : Frag}
noncomputable def noObjs (h : Heap) : Heap := { h with objs := #[] }
noncomputable def ledger (h : Heap) (L d : Addr) : List (Addr × Obj) := (List.range h.objs.size).filterMap fun a => if a = L ∨ a = d then none else (h.get? a).map fun o => (a, o)
end
end Att
namespace L2
open PySem PySem.Spec PyProof.Rows
theorem vals_ints : ∀ {vs : List Value} {ns : List Int}, IntsAre vs ns → Vals (ns.map V.int) vs
  | _, _, .nil => .nil
  | _, _, .cons n t h => .cons ⟨t, rfl⟩ (vals_ints h)
noncomputable def Only (H : Hp) : Prop := ∀ b, H b = none ∨ ∃ o xs, H b = some (.frz o (.lst xs))
theorem law_call {P : Program} {w : World} {K : PySem.W.Frag} {mg mb : Str → Option Value} {CX : CXT} {k : Nat} {fa a : Addr} {fd : FuncData} {x : Str} {sp : Sp} {s₁ : Shared} {vs : List Value} {ns : List Int}
    (KX : K.In s₁.heap) (hns : s₁.heap.Ns mainGlobals mg) (hb : s₁.heap.Ns builtinsNs mb) (hbb : ∀ x : Str, x ≠ "__name__" → mb x = bootBuiltins x) (hlim : s₁.heap.NoLimit) (hg : s₁.gens = #[])
    (ha : s₁.heap.get? a = some { cls := .type "list", data := .seq vs.toArray }) (hi : IntsAre vs ns) (hl : ns.length ≤ sizeLine) (hr : Room k callerA)
    (F : ∀ base : Heap, K.In base → base.Ns mainGlobals mg → FnOk P w K mg base CX k fa fd [x] sp) (hbind : ∀ (s : Shared) (u : Value), BindsTo s fd ⟨[u], []⟩ [(x, u)])
    (hsp : ∀ H : Hp, Only H → SqL K H a (ns.map V.int) → sp [.ref a] H (fun v _ => v = .bl true) fun _ _ _ => False)
    (hCX : ∀ H e s', CX [] H s₁ (fun _ _ _ => False) e s' → False) :
    codeAny (model P w) callerA (.call (.ref fa) ⟨[.ref a], []⟩) (fun r s' => r = .ok (.ret (.bool true)) ∧ OldK s₁.heap s'.heap ∧ s'.os = s₁.os ∧ AllBare s'.gens) s₁ := by
  have rv := vals_ints hi
  have lenV := hi.length
  have core : ∀ H : Hp, Only H → SqL K H a (ns.map V.int) → HOk P w H s₁.heap → (∀ b, H b ≠ none → b = a) → (H a ≠ none → K.lookup a = none) →
      codeAny (model P w) callerA (.call (.ref fa) ⟨[.ref a], []⟩) (fun r s' => r = .ok (.ret (.bool true)) ∧ OldK s₁.heap s'.heap ∧ s'.os = s₁.os ∧ AllBare s'.gens) s₁ := by
    intro H hO hS hok hA hK
    have base_of : ∀ {b : Addr} {o : Obj}, s₁.heap.get? b = some o → H b = none → (hidT s₁.heap H).get? b = some o := fun e n => hidT_get e n
    have noA : ∀ {b : Addr} {o : Obj} {es : Array DictEntry} {ep : Nat}, s₁.heap.get? b = some o → o.data = .dict es ep → H b = none := fun {b o es ep} e d => by
      cases q : H b with
      | none => rfl
      | some u =>
        have e' : b = a := hA b (by rw [q]; simp)
        subst e'
        rw [ha] at e; cases e
        have d' : Data.seq vs.toArray _ = Data.dict es ep := d
        cases d'
    have nsK : ∀ {b : Addr} {m : Str → Option Value}, s₁.heap.Ns b m → (hidT s₁.heap H).Ns b m := fun {b m} ⟨o, es, ep, e, d, r⟩ => ⟨o, es, ep, base_of e (noA e d), d, r⟩
    have hKb : K.In (hidT s₁.heap H) := fun b o e => base_of (KX b o e) (by
      cases q : H b with
      | none => rfl
      | some u =>
        have e' : b = a := hA b (by rw [q]; simp)
        subst e'
        rw [hK (by rw [q]; simp)] at e; cases e)
    have hM : Mod K mg (hidT s₁.heap H) := ⟨hKb, nsK hns, ⟨mb, nsK hb, hbb⟩, let ⟨mc, h1, h2⟩ := hlim; ⟨mc, nsK h1, h2⟩⟩
    have e0 : Env0 P w K mg (hidT s₁.heap H) callerA [] s₁ H := ⟨rfl, hM, fun b o e => of_hidT e, Nat.le_of_eq (hidT_size _ _), trivial, fun b hb => absurd (show b ∈ ([] : List Addr) from hb) (by simp), hok, .of_eq hg⟩
    refine codeAny_mono ((F _ hKb (nsK hns)).run callerA [] s₁ H ⟨[.ref a], []⟩ [.ref a] [.ref a] _ _ hr e0 (hbind s₁ (.ref a)) (.cons rfl .nil) (hsp H hO hS)) fun r s' h => ?_
    cases r with
    | error e => exact (hCX H e s' h).elim
    | ok fl =>
      cases fl with
      | next => exact False.elim h
      | brk => exact False.elim h
      | cont => exact False.elim h
      | ret u =>
        obtain ⟨v, H', os, bare, un, hok', r', q⟩ := h
        have q' : v = .bl true := q
        subst q'
        obtain rfl : u = Value.bool true := r'
        refine ⟨rfl, OldK.of_keep fun b o e => ?_, os, bare⟩
        cases q : H b with
        | none => exact un.keep b o e q (by intro z; exact absurd (show b ∈ ([] : List Addr) from z) (by simp)) (by simp)
        | some u =>
          rcases hO b with z | ⟨ob, xs, z⟩
          · rw [q] at z; cases z
          · have z2 := un.frzs b ob _ z
            obtain ⟨e1, _⟩ := hok b _ z
            obtain ⟨e2, _⟩ := hok' b _ z2
            rw [e] at e1; cases e1
            exact e2
  cases hk : K.lookup a with
  | some o =>
    have e := KX a o hk
    rw [ha] at e
    cases e
    refine core (fun _ => none) (fun _ => .inl rfl) (.inr ⟨_, vs.toArray, _, hk, rfl, rfl, rfl, by rw [List.size_toArray, lenV]; exact hl, by simpa using rv⟩) (fun b u z => by have z' : (none : Option HO) = some u := z; cases z') (fun b z => absurd rfl z) fun z => absurd rfl z
  | none =>
    refine core (fun b => if b = a then some (.frz { cls := .type "list", data := .seq vs.toArray } (.lst (ns.map V.int))) else none) (fun b => ?_) (.inl (.inr ⟨{ cls := .type "list", data := .seq vs.toArray }, if_pos rfl⟩)) (fun b u z => ?_) (fun b z => ?_) fun _ => hk
    · by_cases hb : b = a
      · exact .inr ⟨_, _, if_pos hb⟩
      · exact .inl (if_neg hb)
    · by_cases hb : b = a
      · have z' := (if_pos hb).symm.trans z
        cases z'
        subst hb
        exact ⟨ha, by rw [List.length_map]; exact hl, vs, _, rv, ha⟩
      · have z' := (if_neg hb).symm.trans z
        cases z'
    · by_cases hb : b = a
      · exact hb
      · exact absurd (if_neg hb) z
end L2
namespace L2
open PySem PySem.Spec PyProof.Rows
noncomputable abbrev KOf {K : PySem.W.Frag} {h : Heap} (_ : K.In h) : PySem.W.Frag := K
theorem walk_of {l : PySem.W.OpenLaw} {n k : Nat} {q : Program} {loose : List Str} {XP : (Str → Option Value) → Heap → Prop} {YP : World → Heap → Prop} {d : DefRec} {K : Params → PySem.W.Frag} {CX : World → CXT} {sp : World → Sp} {x : Str}
    (hn : l.most = some n) (hn2 : n ≤ sizeLine) (hdf : d.params.defaults = []) (hr : Room k callerA)
    (hY : ∀ (w : World) (h : Heap), YP w h → (K w.params).In h)
    (F : ∀ (w : World) (mg : Str → Option Value) (fa : Addr) (h : Heap), (K w.params).In h → h.Ns mainGlobals mg → mg d.name = some (.ref fa) →
      ∃ fd : FuncData, (∀ (s : Shared) (u : Value), BindsTo s fd ⟨[u], []⟩ [(x, u)]) ∧
        ∀ base : Heap, (K w.params).In base → base.Ns mainGlobals mg → FnOk l.prog w (K w.params) mg base (CX w) k fa fd [x] (sp w))
    (hsp : ∀ (w : World) (H : Hp) (a : Addr) (ns : List Int), ns.length ≤ n → Only H → SqL (K w.params) H a (ns.map V.int) → sp w [.ref a] H (fun v _ => v = .bl true) fun _ _ _ => False)
    (hCX : ∀ (w : World) (H : Hp) (s : Shared) (e : Value) (s' : Shared), CX w [] H s (fun _ _ _ => False) e s' → False) :
    PySem.W.WalkO q loose XP YP l.row.toRowW d [] (fun f vs => PySem.call f vs) := by
  refine Att.attach_call hn hdf fun w s₀ s₁ mg mb fa o pm cd doc a vs ns G Y ho hd hcd hmg hobj hints hlen hg => ?_
  have KX := hY w _ Y
  obtain ⟨fd, hb, hF⟩ := F w mg fa _ KX G.T.g hmg
  exact law_call KX G.T.g G.T.b G.T.builtins G.T.nolimit hg hobj hints (Nat.le_trans hlen hn2) hr hF hb (fun H hO hS => hsp w H a ns hlen hO hS) fun H e s' => hCX w H s₁ e s'
end L2
namespace L2
open PySem PySem.Spec PyProof.Rows
noncomputable def inClass (s : Stmt) (j : Nat) : Stmt := match s with
  | .ClassDef _ _ _ body _ _ _ _ _ _ _ => body.getD j (.Pass ⟨0, 0, 0, 0⟩)
  | _ => .Pass ⟨0, 0, 0, 0⟩
noncomputable def defArgs (s : Stmt) : Arguments := match s with
  | .FunctionDef _ a _ _ _ _ _ _ _ _ => a
  | _ => { posonlyargs := [], args := [], vararg := none, kwonlyargs := [], kw_defaults := [], kwarg := none, defaults := [] }
noncomputable def defBody (s : Stmt) : List Stmt := match s with
  | .FunctionDef _ _ b _ _ _ _ _ _ _ => b
  | _ => []
noncomputable def defScope (s : Stmt) : Scope := match s with
  | .FunctionDef _ _ _ _ _ _ sc _ _ _ => sc
  | _ => { kind := .function, names := [], isGenerator := false, isCoroutine := false }
noncomputable abbrev CX0 : CXT := fun _ _ _ _ _ _ => False
noncomputable abbrev E0 : XK := fun _ _ _ => False
structure Fun (K : PySem.W.Frag) (x qual : Str) (st : Stmt) (f : Addr) (fd : FuncData) : Prop where
  ex : ∃ (oc : Value) (od : Option Addr) (kV doc pm : Value) (an : Option Addr) (cdv ct : Value) (osl : Array (Option Value)),
    fd = PySem.W.fnOf x qual (defArgs st) (defBody st) (defScope st) .none kV doc pm an cdv ct ∧ K.lookup f = some ⟨oc, od, .func fd, osl⟩ ∧ PySem.W.codeIn K cdv qual = true
  kp : PySem.W.keepIn K (.ref f) = true
section
variable {P : Program} {w : World} {K : PySem.W.Frag} {mg : Str → Option Value} {base : Heap}
theorem Fun.binds {x qual : Str} {st : Stmt} {f : Addr} {fd : FuncData} {ps : List Str} (F : Fun K x qual st f fd)
    (h : ∀ (kV doc pm : Value) (an : Option Addr) (cdv ct : Value) (us : List Value), us.length = ps.length → bindArgs (PySem.W.fnOf x qual (defArgs st) (defBody st) (defScope st) .none kV doc pm an cdv ct) ⟨us, []⟩ = pure (ps.zip us)) : Binds K fd ps [] := by
  obtain ⟨oc, od, kV, doc, pm, an, cdv, ct, osl, rfl, lk, hcd⟩ := F.ex
  exact .all (h kV doc pm an cdv ct)
theorem fun_mk {x qual : Str} {st : Stmt} {f : Addr} {oc : Value} {od an : Option Addr} {osl : Array (Option Value)} {kV doc pm cdv ct : Value} (l : K.lookup f = some ⟨oc, od, .func (PySem.W.fnOf x qual (defArgs st) (defBody st) (defScope st) .none kV doc pm an cdv ct), osl⟩)
    (c : PySem.W.codeIn K cdv qual = true) (k : PySem.W.keepIn K (.ref f) = true) : Fun K x qual st f (PySem.W.fnOf x qual (defArgs st) (defBody st) (defScope st) .none kV doc pm an cdv ct) := ⟨⟨oc, od, kV, doc, pm, an, cdv, ct, osl, rfl, l, c⟩, k⟩
end
section
variable {X : Cx}
end
theorem iteT {A B : Prop} (h : A) : if true = true then A else B := by
  rw [if_pos rfl]
  exact h
noncomputable def Same (H H' : Hp) : Prop := ∀ b o, H b = some o → H' b = some o
end L2
set_option maxRecDepth 100000
namespace L2
open PySem PySem.Spec PyProof.Rows
section
variable {κ : Type} [DecidableEq κ]
noncomputable def valV (kvs : List (κ × V)) (k : κ) : Option V := (kvs.find? fun kv => decide (kv.1 = k)).map (·.2)
noncomputable def putK (kvs : List (κ × V)) (k : κ) (v : V) : List (κ × V) :=
  if (kvs.any fun kv => decide (kv.1 = k)) = true then kvs.map (fun kv => if kv.1 = k then (kv.1, v) else kv) else kvs ++ [(k, v)]
noncomputable def dropK (kvs : List (κ × V)) (k : κ) : List (κ × V) := kvs.filter fun kv => decide (kv.1 ≠ k)
theorem valV_pos {p : κ × V} {r : List (κ × V)} {k : κ} (e : p.1 = k) : valV (p :: r) k = some p.2 := by simp [valV, List.find?_cons, e]
theorem valV_neg {p : κ × V} {r : List (κ × V)} {k : κ} (e : ¬ p.1 = k) : valV (p :: r) k = valV r k := by simp [valV, List.find?_cons, e]
theorem valV_any (k : κ) : ∀ kvs : List (κ × V), (kvs.any fun kv => decide (kv.1 = k)) = (valV kvs k).isSome
  | [] => rfl
  | p :: r => by
    rw [List.any_cons]
    by_cases e : p.1 = k
    · simp only [valV_pos e, decide_eq_true e, Bool.true_or, Option.isSome_some]
    · rw [valV_neg e, decide_eq_false e, Bool.false_or]; exact valV_any k r
theorem length_putK (kvs : List (κ × V)) (k : κ) (v : V) : (putK kvs k v).length ≤ kvs.length + 1 := by
  unfold putK
  split
  · rw [List.length_map]; omega
  · rw [List.length_append, List.length_cons, List.length_nil]; omega
theorem RelO.isSome_eq {o : Option V} {u : Option Value} (r : RelO o u) : o.isSome = u.isSome := by
  cases o with
  | none => cases u with
    | none => rfl
    | some _ => exact (show False from r).elim
  | some _ => cases u with
    | none => exact (show False from r).elim
    | some _ => rfl
theorem RelO.getD {o : Option V} {u : Option Value} {d : V} {d' : Value} (r : RelO o u) (rd : RelV d d') : RelV (o.getD d) (u.getD d') := by
  cases o with
  | none => cases u with
    | none => exact rd
    | some _ => exact (show False from r).elim
  | some _ => cases u with
    | none => exact (show False from r).elim
    | some _ => exact r
theorem KV.val {kvs : List (κ × V)} {vs : List (κ × Value)} (r : KV kvs vs) (k : κ) : RelO (valV kvs k) (valueAt vs k) := by
  unfold KV at r
  induction r with
  | nil => exact True.intro
  | @cons p q ps qs h t ih =>
    obtain ⟨h1, h2⟩ := h
    by_cases e : p.1 = k
    · have e' : q.1 = k := h1.symm.trans e
      have b : valueAt (q :: qs) k = some q.2 := by simp [valueAt, List.find?_cons, e']
      rw [valV_pos e, b]; exact h2
    · have e' : ¬ q.1 = k := fun z => e (h1.trans z)
      have b : valueAt (q :: qs) k = valueAt qs k := by simp [valueAt, List.find?_cons, e']
      rw [valV_neg e, b]; exact ih
theorem KV.any {kvs : List (κ × V)} {vs : List (κ × Value)} (r : KV kvs vs) (k : κ) : (kvs.any fun kv => decide (kv.1 = k)) = vs.any fun kv => decide (kv.1 = k) := by
  unfold KV at r
  induction r with
  | nil => rfl
  | cons h t ih => rw [List.any_cons, List.any_cons, ih, h.1]
theorem KV.repl {kvs : List (κ × V)} {vs : List (κ × Value)} (r : KV kvs vs) (k : κ) {y : V} {u : Value} (ry : RelV y u) :
    KV (kvs.map fun kv => if kv.1 = k then (kv.1, y) else kv) (vs.map fun kv => if kv.1 = k then (kv.1, u) else kv) := by
  unfold KV at r ⊢
  induction r with
  | nil => exact .nil
  | @cons p q ps qs h t ih =>
    rw [List.map_cons, List.map_cons]
    refine .cons ?_ ih
    obtain ⟨h1, h2⟩ := h
    by_cases e : p.1 = k
    · rw [if_pos e, if_pos (h1.symm.trans e)]; exact ⟨h1, ry⟩
    · rw [if_neg e, if_neg (fun z => e (h1.trans z))]; exact ⟨h1, h2⟩
theorem KV.put {kvs : List (κ × V)} {vs : List (κ × Value)} (r : KV kvs vs) (k : κ) {y : V} {u : Value} (ry : RelV y u) : KV (putK kvs k y) (stored vs k u) := by
  unfold putK stored
  rw [r.any k]
  by_cases e : (vs.any fun kv => decide (kv.1 = k)) = true
  · rw [if_pos e, if_pos e]; exact r.repl k ry
  · rw [if_neg e, if_neg e]; exact Paired.snoc r ⟨rfl, ry⟩
theorem KV.length {kvs : List (κ × V)} {vs : List (κ × Value)} (r : KV kvs vs) : kvs.length = vs.length := Paired.length r
theorem dropK_le (kvs : List (κ × V)) (k : κ) : (dropK kvs k).length ≤ kvs.length := List.length_filter_le _ _
end
theorem kV_is {P : Program} {w : World} {k : Key} {u : Value} (r : RelV (kV k) u) : (mixKind P w).is k u = true := by
  cases k with
  | inl i => obtain ⟨t, e⟩ := (show ∃ t, u = Value.int i t from r); subst e; exact mixKind_int P w i t
  | inr x => obtain ⟨t, e⟩ := (show ∃ t, u = Value.str x t from r); subst e; exact mixKind_str P w x t
theorem items_are {P : Program} {w : World} : ∀ {ks : List Key} {us : List Value}, Vals (ks.map kV) us → ItemsAre (mixKind P w) ks us
  | [], _, r => by rw [List.map_nil] at r; cases r; exact .nil
  | k :: ks, _, r => by
    rw [List.map_cons] at r
    cases r with
    | cons h t => exact .cons (kV_is h) (items_are t)
noncomputable abbrev KT (H : Hp) : List (List Key × V) → List (List Key × Addr × Value) → Prop := Paired fun p q => p.1 = q.1 ∧ H q.2.1 = some (.tup (p.1.map kV)) ∧ RelV p.2 q.2.2
theorem KT.val {H : Hp} {kvs : List (List Key × V)} {xs : List (List Key × Addr × Value)} (r : KT H kvs xs) (k : List Key) : RelO (valV kvs k) ((atKey xs k).map (·.2)) := by
  induction r with
  | nil => exact True.intro
  | @cons p q ps qs h t ih =>
    obtain ⟨h1, _, h2⟩ := h
    by_cases e : p.1 = k
    · have e' : q.1 = k := h1.symm.trans e
      have b : atKey (q :: qs) k = some q.2 := by simp [atKey, List.find?_cons, e']
      rw [valV_pos e, b]; exact h2
    · have e' : ¬ q.1 = k := fun z => e (h1.trans z)
      have b : atKey (q :: qs) k = atKey qs k := by simp [atKey, List.find?_cons, e']
      rw [valV_neg e, b]; exact ih
theorem KT.repl {H : Hp} {kvs : List (List Key × V)} {xs : List (List Key × Addr × Value)} (r : KT H kvs xs) (k : List Key) {y : V} {u : Value} (ry : RelV y u) :
    KT H (kvs.map fun kv => if kv.1 = k then (kv.1, y) else kv) (xs.map (putAt k u)) := by
  induction r with
  | nil => exact .nil
  | @cons p q ps qs h t ih =>
    rw [List.map_cons, List.map_cons]
    refine .cons ?_ ih
    obtain ⟨h1, h2, h3⟩ := h
    unfold putAt
    by_cases e : p.1 = k
    · rw [if_pos e, if_pos (h1.symm.trans e)]; exact ⟨h1, h2, ry⟩
    · rw [if_neg e, if_neg (fun z => e (h1.trans z))]; exact ⟨h1, h2, h3⟩
theorem KT.put {H : Hp} {kvs : List (List Key × V)} {xs : List (List Key × Addr × Value)} (r : KT H kvs xs) (k : List Key) {b : Addr} {y : V} {u : Value} (hb : H b = some (.tup (k.map kV))) (ry : RelV y u) :
    KT H (putK kvs k y) (storedH xs k b u) := by
  have e : (kvs.any fun kv => decide (kv.1 = k)) = (atKey xs k).isSome := by
    rw [valV_any, (r.val k).isSome_eq, Option.isSome_map]
  unfold putK storedH
  rw [e]
  by_cases q : (atKey xs k).isSome = true
  · rw [if_pos q, if_pos q]; exact r.repl k ry
  · rw [if_neg q, if_neg q]; exact Paired.snoc r ⟨rfl, hb, ry⟩
theorem KT.keeps {H H' : Hp} {kvs : List (List Key × V)} {xs : List (List Key × Addr × Value)} (r : KT H kvs xs) (ht : ∀ b ys, H b = some (.tup ys) → H' b = some (.tup ys)) : KT H' kvs xs :=
  Paired.mapP r fun _ _ z => ⟨z.1, ht _ _ z.2.1, z.2.2⟩
section
variable {P : Program} {w : World} {H : Hp} {h : Heap} {a : Addr}
theorem rd_of {u : HO} (ok : HOk P w H h) (e : Rd H a u) : ObjOk P w H h a u := e.ok ok
theorem dk_rd {kvs : List (Key × V)} (ok : HOk P w H h) (e : Rd H a (.dK kvs)) : kvs.length ≤ sizeLine ∧ (a == sysModules) = false ∧ ∃ vs, KV kvs vs ∧ h.DictOf (mixKind P w) a vs :=
  show ObjOk P w H h a (.dK kvs) from rd_of ok e
theorem dk_of {kvs : List (Key × V)} (ok : HOk P w H h) (e : H a = some (.dK kvs)) : kvs.length ≤ sizeLine ∧ (a == sysModules) = false ∧ ∃ vs, KV kvs vs ∧ h.DictOf (mixKind P w) a vs := dk_rd ok (.inl e)
theorem key_of {ks : List Key} (ok : HOk P w H h) (e : H a = some (.tup (ks.map kV))) : (tupleKind (mixKind P w)).is h ks a := by
  obtain ⟨_, its, r, o, h1, h2, n, h3⟩ := (show ObjOk P w H h a (.tup (ks.map kV)) from ok a _ e)
  exact ⟨o, its.toArray, n, h1, h2, h3, by simpa using items_are r⟩
theorem dt_rd {kvs : List (List Key × V)} (ok : HOk P w H h) (e : Rd H a (.dT kvs)) : kvs.length ≤ sizeLine ∧ (a == sysModules) = false ∧
    ∃ xs, KT H kvs xs ∧ h.DictOfH (tupleKind (mixKind P w)) a xs := by
  obtain ⟨z, y, xs, r, o, es, ep, h1, h2, h3, h4, h5⟩ := (show ObjOk P w H h a (.dT kvs) from rd_of ok e)
  refine ⟨z, y, xs, r, o, es, ep, h1, h2, h3, h4, fun x hx => ?_, h5⟩
  have all : ∀ {l : List (List Key × V)} {m : List (List Key × Addr × Value)}, KT H l m → ∀ x ∈ m, (tupleKind (mixKind P w)).is h x.1 x.2.1 := by
    intro l m q
    induction q with
    | nil => intro x hx; exact nomatch hx
    | @cons p q ps qs hq t ih =>
      intro x hx
      rcases List.mem_cons.mp hx with e | hx
      · subst e
        exact key_of ok (by rw [← hq.1]; exact hq.2.1)
      · exact ih x hx
  exact all r x hx
theorem dt_of {kvs : List (List Key × V)} (ok : HOk P w H h) (e : H a = some (.dT kvs)) : kvs.length ≤ sizeLine ∧ (a == sysModules) = false ∧
    ∃ xs, KT H kvs xs ∧ h.DictOfH (tupleKind (mixKind P w)) a xs := dt_rd ok (.inl e)
end
noncomputable def DGet (H : Hp) (a : Addr) (y : V) (r : Option V) : Prop :=
  (∃ kvs k, Rd H a (.dK kvs) ∧ y = kV k ∧ r = valV kvs k) ∨ ∃ kvs k b, Rd H a (.dT kvs) ∧ y = .ref b ∧ H b = some (.tup (k.map kV)) ∧ r = valV kvs k
noncomputable def DPut (H : Hp) (a : Addr) (y v : V) (H' : Hp) : Prop :=
  (∃ kvs k, H a = some (.dK kvs) ∧ y = kV k ∧ kvs.length < sizeLine ∧ H' = upd H a (.dK (putK kvs k v))) ∨
  ∃ kvs k b, H a = some (.dT kvs) ∧ y = .ref b ∧ H b = some (.tup (k.map kV)) ∧ kvs.length < sizeLine ∧ H' = upd H a (.dT (putK kvs k v))
theorem DPut.t {H : Hp} {a b : Addr} {kvs : List (List Key × V)} {k : List Key} {v : V} (e : H a = some (.dT kvs)) (eb : H b = some (.tup (k.map kV))) (hl : kvs.length < sizeLine) :
    DPut H a (.ref b) v (upd H a (.dT (putK kvs k v))) := .inr ⟨kvs, k, b, e, rfl, eb, hl, rfl⟩
section
variable {X : Cx} {pins : List (Addr × Obj)} {σ : St} {H : Hp} {s : Shared} {a : Addr} {y v : V} {u r : Value} {o : Option V} {A : Around} {E : Value → Shared → Prop}
theorem Inv.big (I : Inv X pins σ H s) : sysModules < s.heap.objs.size := by
  have h : mainGlobals < s.heap.objs.size := (I.mod.glob.keeps I.bk).lt
  exact Nat.lt_trans (by decide) h
theorem d_getItem {Q : Value → Shared → Prop} (hu : A.units + 1 < cLine) (I : Inv X pins σ H s) (g : DGet H a y (some v)) (ry : RelV y u) (h : ∀ w' s', Inv X pins σ H s' → RelV v w' → Q w' s') :
    wpAny (model X.prog X.w) A (getItem (.ref a) u) Q E s := by
  rcases g with ⟨kvs, k, e, ey, l⟩ | ⟨kvs, k, b, e, ey, eb, l⟩
  · subst ey
    obtain ⟨z, hd, vs, rel, dd⟩ := dk_rd I.hok e
    obtain ⟨w', hw, rw'⟩ := RelO.some_of (v := v) (o := valueAt vs k) (by rw [l]; exact rel.val k)
    exact wpAny_getItem_of (kV_is ry) dd.mapOf hw (h w' _ (I.tok _) rw')
  · subst ey
    cases (show u = Value.ref b from ry)
    obtain ⟨z, hd, xs, rel, dd⟩ := dt_rd I.hok e
    obtain ⟨w', hw, rw'⟩ := RelO.some_of (v := v) (o := (atKey xs k).map (·.2)) (by rw [l]; exact rel.val k)
    obtain ⟨p, hp, hp2⟩ := Option.map_eq_some_iff.mp hw
    refine wpAny_getItem_heap (tupleKind_room_in1 hu) (key_of I.hok eb) dd hp ?_
    rw [hp2]
    exact h w' _ (I.tok _) rw'
theorem d_write {h' : Heap} {t' : Nat} {ob : HO} (I : Inv X pins σ H s) (mu : Mut (H a)) (hs : Heap.SameBut a s.heap h') (he : ∃ q, h'.get? a = some q) (new : ObjOk X.prog X.w (upd H a ob) h' a ob) :
    Inv X pins σ (upd H a ob) { s with heap := h', toks := t' } :=
  I.write (x := a) (e := a) mu (.inl rfl) (fun b q hb z => (hs.2 b hb).trans z) he new
theorem dk_new {P : Program} {w : World} {H' : Hp} {h' : Heap} {kvs : List (Key × V)} {vs : List (Key × Value)} (z : kvs.length ≤ sizeLine) (hd : (a == sysModules) = false) (rel : KV kvs vs) (dd : h'.DictOf (mixKind P w) a vs) :
    ObjOk P w H' h' a (.dK kvs) := ⟨z, hd, vs, rel, dd⟩
theorem d_setItem {H' : Hp} {Q : Unit → Shared → Prop} (hu : A.units + 1 < cLine) (I : Inv X pins σ H s) (g : DPut H a y v H') (ry : RelV y u) (rv : RelV v r) (h : ∀ s', Inv X pins σ H' s' → Q () s') :
    wpAny (model X.prog X.w) A (setItem (.ref a) u r) Q E s := by
  rcases g with ⟨kvs, k, e, ey, l, eH⟩ | ⟨kvs, k, b, e, ey, eb, l, eH⟩
  · subst ey eH
    obtain ⟨z, hd, vs, rel, dd⟩ := dk_of I.hok e
    have hz : vs.length ≤ sizeLine := by rw [← rel.length]; exact z
    have hl : (putK kvs k v).length ≤ sizeLine := by have := length_putK kvs k v; omega
    refine wpAny_setItem_pairs (hsz := hz) (kV_is ry) dd fun h' dd' hs => h _ ?_
    have he : ∃ q, h'.get? a = some q := let ⟨q, _, _, hq, _⟩ := dd'; ⟨q, hq⟩
    exact d_write I (by rw [e]; exact True.intro) hs he (dk_new hl hd (rel.put k rv) dd')
  · subst ey eH
    cases (show u = Value.ref b from ry)
    obtain ⟨z, hd, xs, rel, dd⟩ := dt_of I.hok e
    have hz : xs.length ≤ sizeLine := by rw [← Paired.length rel]; exact z
    have hl : (putK kvs k v).length ≤ sizeLine := by have := length_putK kvs k v; omega
    refine wpAny_setItem_heap (hsz := hz) (tupleKind_room_in1 hu) (key_of I.hok eb) dd fun h' dd' hs => h _ ?_
    obtain ⟨q, es, ep, hq, h2, h3, h4, _, h5⟩ := dd'
    refine d_write I (by rw [e]; exact True.intro) hs ⟨q, hq⟩ ⟨hl, hd, _, (rel.put k eb rv).keeps fun c ys ec => ?_, q, es, ep, hq, h2, h3, h4, h5⟩
    rw [upd_ne (ne_of ec e (fun z => nomatch z))]
    exact ec
end
section
variable {X : Cx} {pins : List (Addr × Obj)} {σ : St} {H : Hp} {s : Shared} {a : Addr} {kvs : List (Key × V)} {k : Key} {u : Value} {A : Around} {E : Value → Shared → Prop}
end
noncomputable def NoSl (i : Expr) : Prop := ∀ ov iv, subscripted i false ov iv = operate [ov, iv] (getItem ov iv)
theorem dict_typeIs {X : Cx} {pins : List (Addr × Obj)} {σ : St} {H : Hp} {s : Shared} {a : Addr} {y : V} {o : Option V} (I : Inv X pins σ H s) (g : DGet H a y o) : s.TypeIs (.ref a) "dict" := by
  rcases g with ⟨kvs, k, e, _, _⟩ | ⟨kvs, k, b, e, _, _, _⟩
  · obtain ⟨_, _, vs, _, dd⟩ := dk_rd I.hok e
    exact dd.typeIs
  · obtain ⟨_, _, xs, _, dd⟩ := dt_rd I.hok e
    exact dd.typeIs
noncomputable def tDGet (td ty : TE) : TE := fun σ H Q => td σ H fun x H1 => ty σ H1 fun y H2 => ∃ a v, x = .ref a ∧ DGet H2 a y (some v) ∧ Q v H2
noncomputable def tDIn (ty td : TE) : TE := fun σ H Q => ty σ H fun y H1 => td σ H1 fun x H2 => ∃ a o, x = .ref a ∧ DGet H2 a y o ∧ Q (.bl o.isSome) H2
noncomputable def tDNotIn (ty td : TE) : TE := fun σ H Q => ty σ H fun y H1 => td σ H1 fun x H2 => ∃ a o, x = .ref a ∧ DGet H2 a y o ∧ Q (.bl (!o.isSome)) H2
noncomputable def sDPut (td ty tv : TE) : TS := fun D σ H => tv σ H fun v H1 => td σ H1 fun x H2 => ty σ H2 fun y H3 => ∃ a H4, x = .ref a ∧ DPut H3 a y v H4 ∧ D.nx σ H4
noncomputable def sDAug (td ty tv : TE) (rd : V → V → Hp → VK → Prop) : TS := fun D σ H => td σ H fun x H1 => ty σ H1 fun y H2 => ∃ a v, x = .ref a ∧ DGet H2 a y (some v) ∧
  tv σ H2 fun y2 H3 => rd v y2 H3 fun z H4 => ∃ H5, DPut H4 a y z H5 ∧ D.nx σ H5
noncomputable def sDDel (td ty : TE) : TS := fun D σ H => td σ H fun x H1 => ty σ H1 fun y H2 => ∃ a kvs k, x = .ref a ∧ H2 a = some (.dK kvs) ∧ y = kV k ∧ (valV kvs k).isSome = true ∧ D.nx σ (upd H2 a (.dK (dropK kvs k)))
section
variable {X : Cx} {o i e value : Expr} {pos pos' tpos : Pos} {td ty tv : TE}
theorem ps_dput (hu : X.A.units + 1 < cLine) (ho : PE X o td) (hi : PE X i ty) (hv : PE X value tv) (hs : swapsWith value (some (.Subscript o i pos')) pos.line X.env = pure false) :
    PS X (.Assign [.Subscript o i pos'] value pos) (sDPut td ty tv) := by
  intro pins s σ H D I h
  refine wpAny_Assign_Subscript (thn (hv pins s σ H _ I h) fun r s1 ⟨v, H1, I1, rv, q1⟩ => thn (ho pins s1 σ H1 _ I1 q1) fun u s2 ⟨x, H2, I2, rx, q2⟩ => thn (hi pins s2 σ H2 _ I2 q2) fun iv s3 ⟨y, H3, I3, ry, a, H4, ex, g, q3⟩ => ?_) hs
  subst ex
  obtain rfl : u = Value.ref a := rx
  exact d_setItem hu I3 g ry rv fun s4 I4 => ⟨σ, H4, I4, q3⟩
theorem ps_daug {op : Operator} {rd : V → V → Hp → VK → Prop} (hu : X.A.units + 1 < cLine) (ho : PE X o td) (hi : PE X i ty) (hv : PE X value tv) (hop : InOp X op rd)
    (ha : ∀ ov iv new, augStore i ov iv new = (do holding [new, ov, iv] (setItem ov iv new); release [new, ov, iv] []; pure .next)) : PS X (.AugAssign (.Subscript o i tpos) op value pos) (sDAug td ty tv rd) := by
  intro pins s σ H D I h
  refine wpAny_AugAssign_SubscriptAny (thn (ho pins s σ H _ I h) fun u s1 ⟨x, H1, I1, rx, q1⟩ => thn (hi pins s1 σ H1 _ I1 q1) fun iv s2 ⟨y, H2, I2, ry, a, v, ex, g, q2⟩ => ?_) ha
  subst ex
  obtain rfl : u = Value.ref a := rx
  refine d_getItem hu I2 g ry fun w' s3 I3 rw' => thn (hv pins s3 σ H2 _ I3 q2) fun w2 s4 ⟨y2, H3, I4, ry2, q3⟩ => thn (hop pins s4 σ H3 v y2 w' w2 _ I4 rw' ry2 q3) fun w3 s5 ⟨z, H4, I5, rz, H5, g5, q4⟩ => ?_
  exact d_setItem hu I5 g5 ry rz fun s6 I6 => ⟨σ, H5, I6, q4⟩
end
theorem dt_empty {P : Program} {w : World} {H : Hp} (h : Heap) (hb : sysModules < h.objs.size) : ObjOk P w H (h.push { cls := .type "dict", data := .dict #[] }) h.objs.size (.dT []) :=
  ⟨Nat.zero_le _, beq_eq_false_iff_ne.mpr (Ne.symm (Nat.ne_of_lt hb)), [], .nil, _, #[], 0, Heap.get?_push_size _ rfl, ⟨rfl, rfl, rfl⟩, rfl, rfl, List.nodup_nil⟩
noncomputable def tDNewK : TE := fun _ H Q => ∀ p, H p = none → Q (.ref p) (upd H p (.dK []))
noncomputable def tDNewT : TE := fun _ H Q => ∀ p, H p = none → Q (.ref p) (upd H p (.dT []))
section
variable {X : Cx} {pos : Pos}
theorem pe_dnewT : PE X (.Dict [] [] pos) tDNewT := fun pins s σ H Q I h =>
  wpAny_Dict_empty ⟨.ref s.heap.objs.size, _, I.laid (a := s.heap.objs.size) (o := .dT []) (t' := s.toks) (fun _ _ q => Heap.get?_push_of_some _ q) (Nat.le_refl _) (dt_empty s.heap I.big), rfl, h _ (I.hok.fresh (Nat.le_refl _))⟩
end
noncomputable def tPairs : List (TE × TE) → St → Hp → (List (V × V) → Hp → Prop) → Prop
  | [], _, H, Q => Q [] H
  | (tk, tv) :: r, σ, H, Q => tk σ H fun x H1 => tv σ H1 fun y H2 => tPairs r σ H2 fun ps H3 => Q ((x, y) :: ps) H3
noncomputable abbrev VV : List (V × V) → List (Value × Value) → Prop := Paired fun p q => RelV p.1 q.1 ∧ RelV p.2 q.2
noncomputable def PPs (X : Cx) (pos : Pos) (keys : List (Option Expr)) (values : List Expr) (trs : List (TE × TE)) : Prop :=
  ∀ (pins : List (Addr × Obj)) (s : Shared) (σ : St) (H : Hp) (Q : List (V × V) → Hp → Prop), Inv X pins σ H s → tPairs trs σ H Q →
    wpAny (model X.prog X.w) X.A (evalPairs (pairTrees keys values X.env pos)) (fun vs s' => ∃ ps H', Inv X pins σ H' s' ∧ VV ps vs ∧ Q ps H') X.xe s
noncomputable def mergeK (kvs more : List (Key × V)) : List (Key × V) := more.foldl (fun acc kv => putK acc kv.1 kv.2) kvs
noncomputable def tDisp (trs : List (TE × TE)) : TE := fun σ H Q => ∀ p, H p = none → tPairs trs σ (upd H p (.dK [])) fun ps H2 => H2 p = some (.dK []) ∧ ∃ kvs : List (Key × V), ps = kvs.map (fun kv => (kV kv.1, kv.2)) ∧ kvs.length ≤ 15 ∧ Q (.ref p) (upd H2 p (.dK (mergeK [] kvs)))
structure M1 (X : Cx) (o : Expr) (m : Str) (apos : Pos) (e : Expr) (cpos : Pos) : Prop where
  base : attributeBase o m X.env (eval o X.env) = eval o X.env
  few : ((backTo cpos (starEach [e] X.env)).all (fun x => !x.1) && (backToKw cpos (keywordEach [] X.env)).all (fun x => x.1.isSome)
    && decide (([e] : List Expr).length + ([] : List Keyword).length + (if ([] : List Keyword).isEmpty then 0 else 1) < 30)) = true
  line : (apos.endLine == cpos.line) = true
  trees : backTo cpos (starEach [e] X.env) = [(false, eval e X.env)]
structure M2 (X : Cx) (o : Expr) (m : Str) (apos : Pos) (e f : Expr) (cpos : Pos) : Prop where
  base : attributeBase o m X.env (eval o X.env) = eval o X.env
  few : ((backTo cpos (starEach [e, f] X.env)).all (fun x => !x.1) && (backToKw cpos (keywordEach [] X.env)).all (fun x => x.1.isSome)
    && decide (([e, f] : List Expr).length + ([] : List Keyword).length + (if ([] : List Keyword).isEmpty then 0 else 1) < 30)) = true
  line : (apos.endLine == cpos.line) = true
  trees : backTo cpos (starEach [e, f] X.env) = [(false, eval e X.env), (false, eval f X.env)]
noncomputable def IsD (H : Hp) (a : Addr) : Prop := (∃ kvs, Rd H a (.dK kvs)) ∨ ∃ kvs, Rd H a (.dT kvs)
theorem isD_at {X : Cx} {pins : List (Addr × Obj)} {σ : St} {H : Hp} {s : Shared} {a : Addr} (I : Inv X pins σ H s) (d : IsD H a) :
    s.TypeIs (.ref a) "dict" ∧ (∀ b, Value.ref a = .ref b → ∃ ob, s.heap.get? b = some ob ∧ ob.dict = none) ∧ (a == sysModules) = false := by
  rcases d with ⟨kvs, e⟩ | ⟨kvs, e⟩
  · obtain ⟨_, hd, vs, _, dd⟩ := dk_rd I.hok e
    refine ⟨dd.typeIs, fun b q => ?_, hd⟩
    cases q
    obtain ⟨ob, _, _, h1, h2, _⟩ := dd
    exact ⟨ob, h1, h2.2.1⟩
  · obtain ⟨_, hd, xs, _, dd⟩ := dt_rd I.hok e
    refine ⟨dd.typeIs, fun b q => ?_, hd⟩
    cases q
    obtain ⟨ob, _, _, h1, h2, _⟩ := dd
    exact ⟨ob, h1, h2.2.1⟩
section
variable {X : Cx} {pins : List (Addr × Obj)} {σ : St} {H : Hp} {s : Shared} {a : Addr} {y d : V} {u r : Value} {o : Option V} {A : Around} {E : Value → Shared → Prop}
theorem d_get2 {Q : Value → Shared → Prop} (hu : A.units + 1 < cLine) (I : Inv X pins σ H s) (g : DGet H a y o) (ry : RelV y u) (rd : RelV d r) (h : ∀ w' s', Inv X pins σ H s' → RelV (o.getD d) w' → Q w' s') :
    wpAny (model X.prog X.w) A (call (.builtin "dict.get") [.ref a, u, r]) Q E s := by
  rcases g with ⟨kvs, k, e, ey, l⟩ | ⟨kvs, k, b, e, ey, eb, l⟩
  · subst ey
    obtain ⟨z, hd, vs, rel, dd⟩ := dk_rd I.hok e
    refine call_meetsIn PySem.F.slot_dict_get dd.typeIs PySem.F.entry_dict_get (PySem.F.args_dict_get_3 _ _ _) (meets_dict_get_default (mixKind X.prog X.w) a (kV_is ry) hd r) ⟨_, dd.mapOf, h _ _ (I.tok _) ?_⟩
    rw [l]
    exact (rel.val k).getD rd
  · subst ey
    cases (show u = Value.ref b from ry)
    obtain ⟨z, hd, xs, rel, dd⟩ := dt_rd I.hok e
    refine call_meetsIn PySem.F.slot_dict_get dd.typeIs PySem.F.entry_dict_get (PySem.F.args_dict_get_3 _ _ _) (meetsH_dict_get_default (tupleKind (mixKind X.prog X.w)) a b hd r) ⟨tupleKind_room_in1 hu, k, xs, key_of I.hok eb, dd, h _ _ (I.tok _) ?_⟩
    rw [l]
    exact (rel.val k).getD rd
end
noncomputable def tDGet1 (td ty : TE) : TE := fun σ H Q => td σ H fun x H1 => ∃ a, x = .ref a ∧ IsD H1 a ∧ ty σ H1 fun y H2 => ∃ o, DGet H2 a y o ∧ Q (o.getD .non) H2
noncomputable def tDGet2 (td ty tx : TE) : TE := fun σ H Q => td σ H fun x H1 => ∃ a, x = .ref a ∧ IsD H1 a ∧ ty σ H1 fun y H2 => tx σ H2 fun z H3 => ∃ o, DGet H3 a y o ∧ Q (o.getD z) H3
noncomputable def tDPop1 (td ty : TE) : TE := fun σ H Q => td σ H fun x H1 => ∃ a, x = .ref a ∧ IsD H1 a ∧ ty σ H1 fun y H2 => ∃ kvs k v, H2 a = some (.dK kvs) ∧ y = kV k ∧ valV kvs k = some v ∧ Q v (upd H2 a (.dK (dropK kvs k)))
noncomputable def tDPop2 (td ty tx : TE) : TE := fun σ H Q => td σ H fun x H1 => ∃ a, x = .ref a ∧ IsD H1 a ∧ ty σ H1 fun y H2 => tx σ H2 fun z H3 => ∃ kvs k, H3 a = some (.dK kvs) ∧ y = kV k ∧
  (∀ v, valV kvs k = some v → Q v (upd H3 a (.dK (dropK kvs k)))) ∧ (valV kvs k = none → Q z H3)
section
variable {X : Cx} {o e f : Expr} {apos cpos : Pos} {td ty tx : TE}
theorem pe_dget2 (hu : X.A.units + 1 < cLine) (ho : PE X o td) (he : PE X e ty) (hf : PE X f tx) (m : M2 X o "get" apos e f cpos) : PE X (.Call (.Attribute o "get" apos) [e, f] [] cpos) (tDGet2 td ty tx) := by
  intro pins s σ H Q I h
  refine wpAny_Call_method m.base m.few m.line PySem.F.plainAttrs_dict PySem.F.slot_dict_get PySem.F.type_dict_get (thn (ho pins s σ H _ I h) fun u s1 ⟨x, H1, I1, rx, a, ex, d, q1⟩ => ?_)
  subst ex
  obtain rfl : u = Value.ref a := rx
  obtain ⟨t1, t2, _⟩ := isD_at I1 d
  refine ⟨t1, t2, ?_⟩
  rw [m.trees]
  refine Calls.callWith_builtin rfl (Calls.evalArgs_plain (Calls.spliced_cons (thn (he pins s1 σ H1 _ I1 q1) fun iv s2 ⟨y, H2, I2, ry, q2⟩ =>
    Calls.spliced_cons (thn (hf pins s2 σ H2 _ I2 q2) fun fv s3 ⟨z, H3, I3, rz, ov, g, q3⟩ => Calls.spliced_nil ?_))))
  exact d_get2 hu I3 g ry rz fun w' s4 I4 rw' => ⟨_, H3, I4, rw', q3⟩
end
section
variable {X : Cx} {pins : List (Addr × Obj)} {σ : St} {H : Hp} {s : Shared} {a : Addr} {kvs : List (Key × V)} {A : Around} {E : Value → Shared → Prop}
end
section
variable {X : Cx} {pins : List (Addr × Obj)} {σ : St} {H : Hp} {s : Shared} {a : Addr} {y : V} {u : Value} {A : Around} {E : Value → Shared → Prop}
end
end L2
set_option Elab.async false
set_option linter.all false
set_option maxRecDepth 100000
set_option maxHeartbeats 4000000
namespace PySem.SeqAt
open AutoSeq1 (wpAny_loadPart')
open MeetsSeq
noncomputable def IsDct (h : Heap) (d : Addr) : Prop := ∃ es ep, h.get? d = some { cls := .type "dict", dict := none, data := .dict es ep, slots := #[] }
section
variable {A : Around} {s : Shared}
end
end PySem.SeqAt
set_option Elab.async false
set_option linter.all false
set_option maxRecDepth 100000
set_option maxHeartbeats 4000000
namespace L2
open PySem PySem.Spec PyProof.Rows
noncomputable def clOf (cells : List (Str × Addr)) : List (Str × NameKind) → List (Str × Addr) → List (Str × Addr)
  | [], cs => cs
  | (n, k) :: r, cs => if k == .free then clOf cells r ((n, (cells.lookup n).getD 0) :: cs) else clOf cells r cs
theorem closure_loop {env : Env} : ∀ (names : List (Str × NameKind)) (cs : List (Str × Addr)), (∀ x ∈ names, x.2 = .free → ∃ c, env.cells.lookup x.1 = some c) →
    (forIn names cs fun (x : Str × NameKind) (r : List (Str × Addr)) => (do
      if x.2 == NameKind.free then
        let a ← cellOf env x.1
        pure (ForInStep.yield ((x.1, a) :: r))
      else pure (ForInStep.yield r) : Sem (ForInStep (List (Str × Addr))))) = (pure (clOf env.cells names cs) : Sem (List (Str × Addr)))
  | [], cs, _ => rfl
  | (n, k) :: r, cs, h => by
    have ih := fun cs => closure_loop (env := env) r cs fun x hx => h x (List.mem_cons_of_mem _ hx)
    rw [List.forIn_cons]
    cases hk : (k == NameKind.free) with
    | true =>
      obtain ⟨c, hc⟩ := h (n, k) List.mem_cons_self (by simpa using hk)
      have hc' : env.cells.lookup n = some c := hc
      simp only [clOf, hk, if_true, cellOf, hc', Option.getD_some, pure_bind]
      exact ih _
    | false =>
      simp only [clOf, hk, Bool.false_eq_true, if_false, pure_bind]
      exact ih _
theorem closureFor_some {scope : Scope} {env : Env} (h : ∀ x ∈ scope.names, x.2 = .free → ∃ c, env.cells.lookup x.1 = some c) : closureFor scope env = pure (clOf env.cells scope.names []) := by
  rw [← closure_loop scope.names [] h]
  unfold closureFor
  simp only [bind_pure]
theorem clOf_in {cells : List (Str × Addr)} {y : Str} {c : Addr} : ∀ {names : List (Str × NameKind)} {cs : List (Str × Addr)}, (clOf cells names cs).lookup y = some c → ((y, NameKind.free) ∈ names ∧ c = (cells.lookup y).getD 0) ∨ cs.lookup y = some c
  | [], cs, h => .inr h
  | (n, k) :: r, cs, h => by
    unfold clOf at h
    cases hk : (k == NameKind.free) with
    | true =>
      have hk' : k = .free := by simpa using hk
      subst hk'
      rw [if_pos (by rfl)] at h
      rcases clOf_in h with ⟨a, b⟩ | q
      · exact .inl ⟨List.mem_cons_of_mem _ a, b⟩
      · cases hy : y == n with
        | true =>
          rw [List.lookup_cons, hy] at q
          have : y = n := by simpa using hy
          subst this
          exact .inl ⟨List.mem_cons_self, (Option.some.inj q).symm⟩
        | false => rw [List.lookup_cons, hy] at q; exact .inr q
    | false =>
      rw [hk] at h
      rcases clOf_in (by simpa using h) with ⟨a, b⟩ | q
      · exact .inl ⟨List.mem_cons_of_mem _ a, b⟩
      · exact .inr q
theorem clOf_has {cells : List (Str × Addr)} {y : Str} : ∀ {names : List (Str × NameKind)} {cs : List (Str × Addr)}, (∀ c, cs.lookup y = some c → c = (cells.lookup y).getD 0) → ((y, NameKind.free) ∈ names ∨ cs.lookup y = some ((cells.lookup y).getD 0)) →
    (clOf cells names cs).lookup y = some ((cells.lookup y).getD 0)
  | [], cs, _, h => by
    rcases h with h | h
    · simp at h
    · exact h
  | (n, k) :: r, cs, hc, h => by
    unfold clOf
    cases hk : (k == NameKind.free) with
    | true =>
      have hk' : k = .free := by simpa using hk
      subst hk'
      rw [if_pos (by rfl)]
      cases hy : y == n with
      | true =>
        have : y = n := by simpa using hy
        subst this
        refine clOf_has (fun c e => ?_) (.inr ?_)
        · rw [List.lookup_cons, hy] at e; exact (Option.some.inj e).symm
        · rw [List.lookup_cons, hy]
      | false =>
        refine clOf_has (fun c e => ?_) ?_
        · rw [List.lookup_cons, hy] at e; exact hc c e
        · rcases h with h | h
          · rcases List.mem_cons.mp h with e | e
            · injection e with e1 _
              rw [e1] at hy; simp at hy
            · exact .inl e
          · right; rw [List.lookup_cons, hy]; exact h
    | false =>
      have h' : (y, NameKind.free) ∈ r ∨ List.lookup y cs = some ((List.lookup y cells).getD 0) := by
        rcases h with h | h
        · rcases List.mem_cons.mp h with e | e
          · injection e with _ e2
            rw [← e2] at hk; simp at hk
          · exact .inl e
        · exact .inr h
      have q := clOf_has (names := r) (cs := cs) hc h'
      simpa using q
theorem lookup_relabel {env : Env} {names : List (Str × NameKind)} {x : Str} {k : NameKind} : (names.map fun (n, k) => if (k == NameKind.free && env.scope.kind == .function && env.kindOf n == some .cell) then (n, NameKind.cell) else (n, k)).lookup x = some k →
    names.lookup x = some k ∨ (k = .cell ∧ names.lookup x = some .free) := by
  induction names with
  | nil => intro h; simp at h
  | cons p r ih =>
    obtain ⟨n, k'⟩ := p
    intro h
    have h : List.lookup x ((if (k' == NameKind.free && env.scope.kind == .function && env.kindOf n == some .cell) = true then (n, NameKind.cell) else (n, k')) :: _) = some k := h
    cases hx : x == n with
    | true =>
      by_cases hc : (k' == NameKind.free && env.scope.kind == .function && env.kindOf n == some .cell) = true
      · rw [if_pos hc] at h
        simp only [List.lookup_cons, hx] at h
        cases h
        refine .inr ⟨rfl, ?_⟩
        simp only [List.lookup_cons, hx]
        simp only [Bool.and_eq_true] at hc
        have : k' = .free := by simpa using hc.1.1
        rw [this]
      · rw [if_neg hc] at h
        simp only [List.lookup_cons, hx] at h ⊢
        exact .inl h
    | false =>
      have h' : List.lookup x (r.map fun (n, k) => if (k == NameKind.free && env.scope.kind == .function && env.kindOf n == some .cell) then (n, NameKind.cell) else (n, k)) = some k := by
        by_cases hc : (k' == NameKind.free && env.scope.kind == .function && env.kindOf n == some .cell) = true
        · rw [if_pos hc] at h; simpa only [List.lookup_cons, hx] using h
        · rw [if_neg hc] at h; simpa only [List.lookup_cons, hx] using h
      simp only [List.lookup_cons, hx]
      exact ih h'
theorem compLoop_go {prog : Program} {w : World} {A : Around} {R : Result → Shared → Prop} {s : Shared} {elt target iter : Expr} {ifs : List Expr} {scope : Scope} {pos : Pos} {it acc : Value} {env : Env} (I : Nat → Shared → Prop)
    (turn : ∀ n s, I n s → wpAny (model prog w) A (pyNext it) (fun r s₁ => match r with
      | none => R (.ok .next) s₁
      | some v => wpAny (model prog w) A (letOwnedTupleGo target it v) (fun _ s₁' => wpAny (model prog w) A (assign target env v) (fun _ s₂ =>
          wpAny (model prog w) A (forIn ifs true fun c r => if r = true then do let ok ← isTrue c env (eval c env); pure (ForInStep.yield ok) else pure (ForInStep.yield r)) (fun ok s₃ =>
            if ok = true then wpAny (model prog w) A (eval elt env) (fun x s₄ =>
              wpAny (model prog w) A (call (.builtin "list.append") [acc, x]) (fun _ s₅ => ∃ m, m < n ∧ I m s₅) (notedBy (model prog w) A env fun e s' => R (.error e) s') s₄) (notedBy (model prog w) A env fun e s' => R (.error e) s') s₃
            else ∃ m, m < n ∧ I m s₃) (notedBy (model prog w) A env fun e s' => R (.error e) s') s₂) (notedBy (model prog w) A env fun e s' => R (.error e) s') s₁') (notedBy (model prog w) A env fun e s' => R (.error e) s') s₁) (notedBy (model prog w) A env fun e s' => R (.error e) s') s)
    (n : Nat) (h : I n s) :
    codeAny (model prog w) A (.compLoop (.ListComp elt [⟨target, iter, ifs, 0⟩] scope pos) 0 it acc env) R s := by
  refine codeAny_loop rfl I (fun n s hI => ?_) n h
  show wpAny _ A ((compTurn (.ListComp elt [⟨target, iter, ifs, 0⟩] scope pos) 0 it acc env).onRaise (fun x => do noteFrame x env; theTreesLotGoes x)) _ _ s
  refine wpAny_noted ?_
  rw [compTurn_list]
  refine wpAny_bind (wpAny_standAt (wpAny_bind (wpAny_mono (turn n s hI) (fun r s₁ h₁ => ?_) fun _ _ h' => h')))
  cases r with
  | none => exact wpAny_pure h₁
  | some v =>
    refine wpAny_bind (wpAny_mono h₁ (fun _ s₁' h₁' => ?_) fun _ _ h' => h')
    refine wpAny_bind (wpAny_mono h₁' (fun _ s₂ h₂ => wpAny_bind (wpAny_mono h₂ (fun ok s₃ h₃ => ?_) fun _ _ h' => h')) fun _ _ h' => h')
    cases ok with
    | false => exact wpAny_pure ⟨rfl, h₃⟩
    | true =>
      exact wpAny_bind (wpAny_bind (wpAny_mono h₃ (fun x s₄ h₄ => wpAny_bind (wpAny_mono h₄ (fun _ s₅ h₅ => wpAny_pure (wpAny_pure ⟨rfl, h₅⟩)) fun _ _ h' => h')) fun _ _ h' => h'))
noncomputable def hid (z : Str) : Str := ⟨#[46] ++ z.cps⟩
noncomputable def mkN (scope : Scope) (N : List Str) : List Str := N.map fun z => if scope.names.lookup z = some .local then hid z else z
noncomputable def cxComp (X : Cx) (x : Str) (scope : Scope) (fp : List Addr) (s : Shared) (H : Hp) : Cx where
  prog := X.prog
  w := X.w
  K := X.K
  mg := X.mg
  base := X.base
  A := X.A
  N := x :: mkN scope X.N
  s₀ := s
  H₀ := H
  env := compEnvC scope (clOf X.env.cells scope.names []) s.heap.objs.size X.env
  outer := X.stack
  stack := X.stack
  ex := fp
  calm := X.calm
  fn := fun _ => false
  pn := X.pn
  xe := fun _ _ => False
structure CompScope (X : Cx) (x : Str) (scope : Scope) : Prop where
  kind : scope.kind = .function
  nocell : ∀ y ∈ scope.names, y.2 ≠ .cell
  locs : ∀ y ∈ scope.names, y.2 = .local → scope.names.lookup y.1 = some .local
  own : scope.names.lookup x = some .local
  frees : ∀ y ∈ scope.names, y.2 = .free → X.env.kindOf y.1 = some .cell ∨ X.env.kindOf y.1 = some .free
  apart : ∀ z ∈ X.N, scope.names.lookup z = some .local → scope.names.lookup (hid z) = none
theorem CompScope.cells {X : Cx} {x : Str} {scope : Scope} (C : CompScope X x scope) (ok : X.Ok) : ∀ y ∈ scope.names, y.2 = .free → ∃ c, X.env.cells.lookup y.1 = some c := fun y hy hf => ok.has y.1 (C.frees y hy hf)
theorem CompScope.cell_of {X : Cx} {x y : Str} {c : Addr} {scope : Scope} (C : CompScope X x scope) (ok : X.Ok) (h : (clOf X.env.cells scope.names []).lookup y = some c) : (y, NameKind.free) ∈ scope.names ∧ X.env.cells.lookup y = some c := by
  rcases clOf_in h with ⟨a, b⟩ | q
  · obtain ⟨c', e⟩ := C.cells ok _ a rfl
    have e' : X.env.cells.lookup y = some c' := e
    rw [e', Option.getD_some] at b
    exact ⟨a, by rw [b]; exact e'⟩
  · simp at q
theorem comp_ok {X : Cx} {x : Str} {scope : Scope} {fp : List Addr} {pins : List (Addr × Obj)} {σ : St} {H : Hp} {s : Shared} (I : Inv X pins σ H s) (C : CompScope X x scope) (hf : ∀ b ∈ fp, FpOk X pins H b) (ho : ∀ b ∈ fp, ∃ o, s.heap.get? b = some o) :
    (cxComp X x scope fp s H).Ok where
  mod := I.ok.mod
  kind := C.kind
  glob := I.ok.glob
  blt := I.ok.blt
  above := Nat.le_refl _
  inj := fun y z c h1 h2 => I.ok.inj y z c (C.cell_of I.ok h1).2 (C.cell_of I.ok h2).2
  has := fun y hy => by
    have hy : (relabel scope X.env).names.lookup y = some .cell ∨ (relabel scope X.env).names.lookup y = some .free := hy
    have hfr : scope.names.lookup y = some .free := by
      rcases hy with hy | hy
      · rcases lookup_relabel hy with q | ⟨_, q⟩
        · exact absurd rfl (C.nocell _ (PySem.mem_of_lookup q))
        · exact q
      · rcases lookup_relabel hy with q | ⟨z, _⟩
        · exact q
        · cases z
    exact ⟨_, clOf_has (fun c e => by simp at e) (.inl (PySem.mem_of_lookup hfr))⟩
  cab := fun y c h _ => nomatch h
  hd := I.ok.hd
  frames := I.ok.frames
  stk := .inl rfl
  exf := fun b hb => by
    obtain ⟨o, e⟩ := ho b hb
    obtain ⟨f0, f1, f2, f3, f4, f5⟩ := hf b hb
    exact ⟨Nat.ne_of_lt (Heap.lt_size e), fun y c h => f4 y c (C.cell_of I.ok h).2⟩
  bs := I.bs
  bsz := Nat.le_trans I.ok.bsz I.sz
  noex := fun b o e hb => by
    obtain ⟨f0, f1, f2, f3, f4, f5⟩ := hf b hb
    rcases f3 with z | z
    · exact I.ok.noex b o e z
    · exact absurd (Nat.lt_of_lt_of_le (Heap.lt_size (I.ok.bs b o e).1) z) (Nat.lt_irrefl _)
  exfs := fun b hb hs => by
    obtain ⟨f0, f1, f2, f3, f4, f5⟩ := hf b hb
    rcases List.mem_cons.mp (I.stkSub b hs) with z | z
    · exact f1 z
    · exact f2 z
  funs := I.stack
  frf := I.stkFree
theorem comp_inv {X : Cx} {x : Str} {scope : Scope} {fp : List Addr} {pins : List (Addr × Obj)} {σ : St} {H : Hp} {s : Shared} {h' : Heap} {tk : Nat} {m : Str → Option Value} (I : Inv X pins σ H s) (C : CompScope X x scope) (hf : ∀ b ∈ fp, FpOk X pins H b) (ho : ∀ b ∈ fp, ∃ o, s.heap.get? b = some o)
    (hn : h'.Ns s.heap.objs.size m) (k : ∀ b o, s.heap.get? b = some o → h'.get? b = some o) : Inv (cxComp X x scope fp s H) pins (none :: σ) H { s with heap := h', toks := tk } := by
  refine ⟨comp_ok I C hf ho, rfl, I.bare, Un.kept k, ⟨m, hn, fun i y v h1 h2 h3 => ?_⟩, fun y c h => ?_, I.hok.fresh (Nat.le_refl _), fun y c h => I.freeC y c (C.cell_of I.ok h).2, fun p hp => ?_, I.hok.kept k, ?_⟩
  · cases i with
    | zero => simp at h2
    | succ i =>
      have h1 : (mkN scope X.N)[i]? = some y := by simpa [cxComp] using h1
      unfold mkN at h1
      rw [List.getElem?_map] at h1
      obtain ⟨y0, h1', hy0⟩ := Option.map_eq_some_iff.mp h1
      have h2 : σ[i]? = some (some v) := by simpa using h2
      have h3 : (relabel scope X.env).names.lookup y = some .local ∨ (relabel scope X.env).names.lookup y = some .cell ∨ (relabel scope X.env).names.lookup y = some .free := h3
      have hsome : ∃ kd, scope.names.lookup y = some kd := by
        rcases h3 with q | q | q <;> rcases lookup_relabel q with q | ⟨_, q⟩ <;> exact ⟨_, q⟩
      have nl : ¬ scope.names.lookup y0 = some .local := fun hl => by
        rw [if_pos hl] at hy0
        obtain ⟨kd, q⟩ := hsome
        rw [← hy0, C.apart y0 (List.mem_of_getElem? h1') hl] at q
        cases q
      rw [if_neg nl] at hy0
      subst hy0
      have hfr : scope.names.lookup y0 = some .free := by
        rcases h3 with q | q | q
        · rcases lookup_relabel q with q | ⟨z, _⟩
          · exact absurd q nl
          · cases z
        · rcases lookup_relabel q with q | ⟨_, q⟩
          · exact absurd rfl (C.nocell _ (PySem.mem_of_lookup q))
          · exact q
        · rcases lookup_relabel q with q | ⟨z, _⟩
          · exact q
          · cases z
      have hmem := PySem.mem_of_lookup hfr
      obtain ⟨m0, hn0, hl0⟩ := I.loc
      have hvis : Vis X.env.scope y0 := by
        rcases C.frees _ hmem rfl with q | q
        · exact .inr (.inl q)
        · exact .inr (.inr q)
      obtain ⟨u, r, l⟩ := hl0 i y0 v h1' h2 hvis
      refine ⟨u, r, .inr ⟨?_, ?_⟩⟩
      · rcases h3 with q | q | q
        · rcases lookup_relabel q with q | ⟨z, _⟩
          · rw [hfr] at q; cases q
          · cases z
        · exact .inl q
        · exact .inr q
      · rcases l with ⟨lk, _⟩ | ⟨_, c, hc, hcell⟩
        · rcases C.frees _ hmem rfl with q | q
          · rw [lk] at q; cases q
          · rw [lk] at q; cases q
        · refine ⟨c, ?_, ?_⟩
          · show (clOf X.env.cells scope.names []).lookup y0 = some c
            have q := clOf_has (cells := X.env.cells) (y := y0) (names := scope.names) (cs := []) (fun c e => by simp at e) (.inl hmem)
            rw [hc, Option.getD_some] at q
            exact q
          · obtain ⟨o, e, d⟩ := hcell
            exact ⟨o, k _ _ e, d⟩
  · obtain ⟨v, o, e, d⟩ := I.cell y c (C.cell_of I.ok h).2
    exact ⟨v, o, k _ _ e, d⟩
  · obtain ⟨e, n, ne, nf, d⟩ := I.pin p hp
    refine ⟨k _ _ e, n, Nat.ne_of_lt (Heap.lt_size e), fun z => ?_, d⟩
    rcases List.mem_cons.mp (I.stkSub _ z) with q | q
    · exact ne q
    · exact nf q
  · show (none :: σ).length = (x :: mkN scope X.N).length
    rw [List.length_cons, List.length_cons, I.len, mkN, List.length_map]
end L2
set_option Elab.async false
set_option linter.all false
set_option maxRecDepth 100000
set_option maxHeartbeats 4000000
namespace L2
open PySem PySem.Spec PyProof.Rows
noncomputable def tYes : TT := fun _ H Q => Q true H
noncomputable def PTs (X : Cx) (ifs : List Expr) (t : TT) : Prop :=
  ∀ (pins : List (Addr × Obj)) (s : Shared) (σ : St) (H : Hp) (Q : Bool → Hp → Prop), Inv X pins σ H s → t σ H Q →
    wpAny (model X.prog X.w) X.A (forIn ifs true fun c r => if r = true then do let ok ← isTrue c X.env (eval c X.env); pure (ForInStep.yield ok) else pure (ForInStep.yield r)) (TP X pins σ Q) X.xe s
theorem pts_nil {X : Cx} : PTs X [] tYes := fun _ _ _ H _ I h => wpAny_tests_nil ⟨H, I, h⟩
theorem pts_one {X : Cx} {c : Expr} {t : TT} (h : PT X c t) : PTs X [c] t := fun pins s σ H Q I q => wpAny_tests_one (h pins s σ H Q I q)
noncomputable def tComp (wi : TI) (tc : TT) (te : TE) : TE := fun σ H Q => wi σ H fun J H1 => ∀ D, H1 D = none → ∃ W : Nat → Nat → List V → Hp → Prop, (∃ m, W 0 m [] (upd H1 D (.lst []))) ∧ ∀ i m ys H2, W i m ys H2 →
  (J.stop i H2 ∧ Q (.ref D) H2) ∨ (J.go i H2 ∧ ∃ N : List V → Hp → Prop, (∀ ys' H', N ys' H' → ∃ m', m' < m ∧ W (i + 1) m' ys' H') ∧
    ∀ x H', J.yld i H2 x H' → tc (some x :: σ) H' fun b H3 => if b = true then te (some x :: σ) H3 fun y H4 => H4 D = some (.lst ys) ∧ ys.length < sizeLine ∧ N (ys ++ [y]) (upd H4 D (.lst (ys ++ [y]))) else N ys H3)
theorem comp_out {X : Cx} {x : Str} {scope : Scope} {fp : List Addr} {pins : List (Addr × Obj)} {σ σ' : St} {H H' : Hp} {s s' : Shared} {h' : Heap} (I : Inv X pins σ H s) (hf : ∀ b ∈ fp, FpOk X pins H b) (J : Inv (cxComp X x scope fp s H) pins σ' H' s')
    (sb : Heap.SameBut s.heap.objs.size s'.heap h') : Inv X pins σ H' { s' with heap := h' } := by
  have hC : H' s.heap.objs.size = none := J.free
  have ne : ∀ b o, s.heap.get? b = some o → b ≠ s.heap.objs.size := fun b o e => Nat.ne_of_lt (Heap.lt_size e)
  have u : Un (frs X.stack) fp H H' s.heap h' :=
    ⟨fun b o e n hb hx => (sb.2 b (ne b o e)).trans (J.base.keep b o e n hb hx), fun b o e n hb hx => by
        obtain ⟨sl, q⟩ := J.base.slot b o e n hb hx
        exact ⟨sl, (sb.2 b (ne b o e)).trans q⟩, J.base.free, fun b o e hx => by
        obtain ⟨o', q⟩ := J.base.there b o e hx
        exact ⟨o', (sb.2 b (ne b o e)).trans q⟩, J.base.tups, J.base.frzs, J.base.tbls⟩
  have hok : HOk X.prog X.w H' h' := fun b ob e => by
    refine (J.hok b ob e).stay (fun c w' hc q => (sb.2 c ?_).trans q) (fun _ q => q) fun _ _ q => q
    intro z
    rcases hc with y | y
    · rw [z] at y; rw [← y, hC] at e; cases e
    · rw [z, hC] at y; cases y
  exact I.call' (s' := { s' with heap := h' }) J.os u hok J.bare fun b hb => ⟨(hf b hb).2.2.2.1, (hf b hb).2.1, (hf b hb).2.2.2.2.1, (hf b hb).2.2.2.2.2⟩
theorem comp_core {X : Cx} {elt iter : Expr} {ifs : List Expr} {x : Str} {px : Pos} {scope : Scope} {pos : Pos} {wi : TI} {tc : TT} {te : TE} (hc : X.calm = true) (C : CompScope X x scope) (hx : (x :: mkN scope X.N).Nodup) (hN : X.N.Nodup)
    (hi : PI X (.Name x px) iter wi) (ht : ∀ fp s H, PTs (cxComp X x scope fp s H) ifs tc) (he : ∀ fp s H, PE (cxComp X x scope fp s H) elt te)
    (hs : ∀ x, foldedSetIterable iter X.env x = pure x) {pins : List (Addr × Obj)} {s : Shared} {σ : St} {H : Hp} {Q : VK} (I : Inv X pins σ H s) (h : tComp wi tc te σ H Q)
    {use : Option (Value → Sem Unit)} {QQ : Value → Shared → Prop} {ppos : Pos}
    (fin : ∀ {fp : List Addr} {s3 s5 : Shared} {H3 H4 : Hp} {D : Addr} {o : Option V}, Inv X pins σ H3 s3 → (∀ b ∈ fp, FpOk X pins H3 b) → Inv (cxComp X x scope fp s3 H3) pins (o :: σ) H4 s5 → Q (.ref D) H4 → compPost (model X.prog X.w) X.A X.xe use QQ (.ref D) s3.heap.objs.size (.ok .next) s5) :
    wpAny (model X.prog X.w) X.A (comprehension (.ListComp elt [⟨.Name x px, iter, ifs, 0⟩] scope pos) scope X.env ppos (newList []) false (eval iter X.env) use) QQ X.xe s := by
  refine wpAny_comprehension_free rfl hs (closureFor_some (C.cells I.ok)) C.kind C.locs (thn (hi pins s σ H _ I h) fun v s1 h1 => thn h1 fun itv s2 h2 => ?_)
  obtain ⟨it, fp, tn, J, H2, e, I2, T, st2, f2, R⟩ := h2
  subst e
  have hD : H2 s2.heap.objs.size = none := I2.hok.fresh (Nat.le_refl _)
  obtain ⟨W, ⟨m0, w0⟩, turn⟩ := R _ hD
  refine wpAny_newObj_type (wpAny_newFunctionEnv C.nocell (by intro y hy; simp at hy) (fun h₁ hns₁ hsb₁ => ?_) C.kind)
  dsimp only at hns₁ hsb₁ ⊢
  have I3 : Inv X pins σ (upd H2 s2.heap.objs.size (.lst [])) { s2 with heap := s2.heap.push { cls := .type "list", dict := none, data := .seq ([] : List Value).toArray } } :=
    I2.laid (t' := s2.toks) (o := .lst []) (fun b ob q => Heap.get?_push_of_some _ q) (Nat.le_refl _) ⟨Nat.zero_le _, [], 0, .nil, Heap.get?_push_size _ rfl⟩
  have f3 : ∀ b ∈ fp, FpOk X pins (upd H2 s2.heap.objs.size (.lst [])) b := fun b hb => by
    obtain ⟨o, e, _⟩ := T.obj _ _ st2 b hb
    obtain ⟨g0, g⟩ := f2 b hb
    exact ⟨by rw [upd_ne (Nat.ne_of_lt (Heap.lt_size e))]; exact g0, g⟩
  have o3 : ∀ b ∈ fp, ∃ o, (s2.heap.push { cls := .type "list", dict := none, data := .seq ([] : List Value).toArray }).get? b = some o := fun b hb => by
    obtain ⟨o, e, _⟩ := T.obj _ _ st2 b hb
    exact ⟨o, Heap.get?_push_of_some _ e⟩
  have old : ∀ b o, (s2.heap.push { cls := .type "list", dict := none, data := .seq ([] : List Value).toArray }).get? b = some o → h₁.get? b = some o := fun b o e =>
    hsb₁.extBut b o (Nat.ne_of_lt (Heap.lt_size e)) (Heap.get?_push_of_some _ e)
  have K0 := comp_inv (x := x) (scope := scope) (fp := fp) (h' := h₁) (tk := s2.toks) I3 C f3 o3 hns₁ old
  have st3 : tn 0 h₁ := T.keep _ _ _ st2 fun b _ o e => old b o (Heap.get?_push_of_some _ e)
  generalize hs3 : ({ s2 with heap := s2.heap.push { cls := .type "list", dict := none, data := .seq ([] : List Value).toArray } } : Shared) = s3 at I3 K0
  have es3 : s2.heap.push { cls := .type "list", dict := none, data := .seq ([] : List Value).toArray } = s3.heap := by rw [← hs3]
  generalize hH3 : upd H2 s2.heap.objs.size (.lst []) = H3 at I3 K0 f3 w0
  have stat : ∀ {H' : Hp}, (∀ b ∈ fp, H' b = none) → ∀ b ∈ fp, FpOk (cxComp X x scope fp s3 H3) pins H' b := fun {H'} hn b hb => by
    obtain ⟨o, e⟩ := o3 b hb
    rw [es3] at e
    obtain ⟨g0, g1, g2, g3, g4, g5⟩ := f3 b hb
    refine ⟨hn b hb, Nat.ne_of_lt (Heap.lt_size e), fun z => ?_, .inl hb, fun y c h => g4 y c (C.cell_of I.ok h).2, g5⟩
    rcases List.mem_cons.mp (I3.stkSub _ z) with q | q
    · exact g1 q
    · exact g2 q
  have nd' : (x :: mkN scope X.N).Nodup := hx
  have lx : (relabel scope X.env).names.lookup x = some .local := lookup_relabel_local C.own
  have loop : codeAny (model X.prog X.w) X.A (.compLoop (.ListComp elt [⟨.Name x px, iter, ifs, 0⟩] scope pos) 0 (.ref it) (.ref s2.heap.objs.size) (cxComp X x scope fp s3 H3).env)
      (compPost (model X.prog X.w) X.A X.xe use QQ (Value.ref s2.heap.objs.size) s3.heap.objs.size) { s3 with heap := h₁, toks := s2.toks } := by
    refine compLoop_go (fun n s' => ∃ i o ys H', Inv (cxComp X x scope fp s3 H3) pins (o :: σ) H' s' ∧ tn i s'.heap ∧ (∀ b ∈ fp, H' b = none) ∧ W i n ys H') ?_ m0 ⟨0, none, [], H3, K0, st3, fun b hb => (f3 b hb).1, w0⟩
    rintro n s4 ⟨i, o, ys, H4, I4, st4, fr4, w4⟩
    rcases turn i n ys H4 w4 with ⟨stop, qn⟩ | ⟨go, N, hNN, step⟩
    · refine thn (T.done (cxComp X x scope fp s3 H3) rfl rfl rfl hc i pins s4 (o :: σ) H4 _ I4 (stat fr4) st4 stop) fun r s5 ⟨hr, I5⟩ => ?_
      subst hr
      exact fin I3 f3 I5 qn
    · refine thn (T.item (cxComp X x scope fp s3 H3) rfl rfl rfl hc i pins s4 (o :: σ) H4 _ I4 (stat fr4) st4 go) fun r s5 ⟨u, hr, h5⟩ => ?_
      subst hr
      refine thn h5 fun _ s6 ⟨y, H6, I6, r6, y6, st6, fr6⟩ => ?_
      have I6' := I6.pinned (stat fr6) (T.obj _ _ st6)
      refine wpAny_assign_Name (store_ok (i := 0) I6' nd' rfl (.inl lx) r6 (fun s7 I7 => ?_) (.inr lx))
      have keepS : ∀ {o' : Option V} {H' : Hp} {s' : Shared}, Inv (cxComp X x scope fp s3 H3) (pins ++ pinsAt fp s6.heap) (o' :: σ) H' s' → tn (i + 1) s'.heap ∧ ∀ b ∈ fp, H' b = none := fun {o' H' s'} I' => by
        refine ⟨T.keep _ _ _ st6 fun b hb o e => (I'.pin (b, o) (List.mem_append_right _ (List.mem_append_right _ (mem_pinsAt hb e)))).1, fun b hb => ?_⟩
        obtain ⟨o, e, d⟩ := T.obj _ _ st6 b hb
        exact (I'.pin (b, o) (List.mem_append_right _ (List.mem_append_right _ (mem_pinsAt hb e)))).2.1
      refine wpAny_mono (ht fp s3 H3 _ s7 (some y :: σ) H6 _ I7 (step y H6 y6)) (fun b s8 ⟨H8, I8, q8⟩ => ?_) fun _ _ z => False.elim z
      cases b with
      | false =>
        rw [if_neg Bool.false_ne_true] at q8 ⊢
        obtain ⟨m', hm, w8⟩ := hNN ys H8 q8
        obtain ⟨a1, a2⟩ := keepS I8
        exact ⟨m', hm, i + 1, some y, ys, H8, I8.unpinned, a1, a2, w8⟩
      | true =>
        rw [if_pos rfl] at q8 ⊢
        refine wpAny_mono (he fp s3 H3 _ s8 (some y :: σ) H8 _ I8 q8) (fun v9 s9 ⟨y9, H9, I9, r9, hacc, hsz, q9⟩ => ?_) fun _ _ z => False.elim z
        refine wpAny_mono (mt_append (X := cxComp X x scope fp s3 H3) _ s9 (some y :: σ) H9 (.ref s2.heap.objs.size) [y9] _ [v9] (fun _ H' => N (ys ++ [y9]) H') I9 rfl (.cons r9 .nil) ⟨_, _, _, rfl, rfl, hacc, hsz, q9⟩) (fun _ s10 ⟨_, H10, I10, _, q10⟩ => ?_) fun _ _ z => False.elim z
        obtain ⟨m', hm, w10⟩ := hNN _ H10 q10
        obtain ⟨a1, a2⟩ := keepS I10
        exact ⟨m', hm, i + 1, some y, _, H10, I10.unpinned, a1, a2, w10⟩
  have eC : (s2.heap.push { cls := .type "list", dict := none, data := .seq ([] : List Value).toArray }).objs.size = s3.heap.objs.size := by rw [es3]
  rw [eC]
  have es4 : ({ heap := h₁, gens := s2.gens, drawn := s2.drawn, toks := s2.toks + ([] : List (Str × Value)).length, os := s2.os } : Shared) = { s3 with heap := h₁, toks := s2.toks } := by rw [← hs3]; rfl
  rw [es4]
  exact codeAny_compStart_list loop (T.self _ 0 _ _ _ st3 loop)
theorem pe_comp {X : Cx} {elt iter : Expr} {ifs : List Expr} {x : Str} {px : Pos} {scope : Scope} {pos : Pos} {wi : TI} {tc : TT} {te : TE} (hc : X.calm = true) (C : CompScope X x scope) (hx : (x :: mkN scope X.N).Nodup) (hN : X.N.Nodup)
    (hi : PI X (.Name x px) iter wi) (ht : ∀ fp s H, PTs (cxComp X x scope fp s H) ifs tc) (he : ∀ fp s H, PE (cxComp X x scope fp s H) elt te)
    (hs : ∀ x, foldedSetIterable iter X.env x = pure x := by intro _; rfl) : PE X (.ListComp elt [⟨.Name x px, iter, ifs, 0⟩] scope pos) (tComp wi tc te) := by
  intro pins s σ H Q I h
  rw [eval_ListComp]
  refine comp_core (use := none) hc C hx hN hi ht he hs I h fun I3 f3 I5 qn => ?_
  obtain ⟨m5, hn5, _⟩ := id I5.loc
  exact ⟨m5, hn5, fun h' sb => ⟨.ref _, _, comp_out I3 f3 I5 sb, rfl, qn⟩⟩
end L2
set_option Elab.async false
set_option linter.all false
set_option maxRecDepth 100000
set_option maxHeartbeats 4000000
namespace L2
open PySem PySem.Spec PyProof.Rows
theorem Inv.turnLaid {X : Cx} {pins : List (Addr × Obj)} {σ : St} {H : Hp} {s : Shared} {h' : Heap} {t' : Nat} {fp : List Addr} {p : Addr} {xs : List V} (I : Inv X pins σ H s) (hf : ∀ b ∈ fp, FpOk X pins H b)
    (k : ∀ b o, b ∉ fp → s.heap.get? b = some o → h'.get? b = some o) (hp : s.heap.objs.size ≤ p) (new : ObjOk X.prog X.w (upd H p (.tup xs)) h' p (.tup xs)) : Inv X pins σ (upd H p (.tup xs)) { s with heap := h', toks := t' } := by
  have hn : H p = none := I.hok.fresh hp
  have nit : ∀ b u, H b = some u → b ∉ fp := fun b u e z => by rw [(hf b z).1] at e; cases e
  have nep : ∀ {b : Addr} {o : Obj}, s.heap.get? b = some o → b ≠ p := fun e => Nat.ne_of_lt (Nat.lt_of_lt_of_le (Heap.lt_size e) hp)
  refine I.step (g' := s.gens) (d' := s.drawn) (ch := fp) (fun b hb => ?_) (fun b o _ _ hc e _ => k b o hc e) (fun b o _ _ hc e _ => ⟨o.slots, k b o hc e⟩) (fun b o _ e n => by rw [upd_ne (nep e)]; exact n)
    (fun b o hc e => ⟨o, k b o hc e⟩) (fun b ys e => by rw [upd_ne (ne_of_none e hn)]; exact e) (fun b o u e => by rw [upd_ne (ne_of_none e hn)]; exact e) (fun b ps e => ⟨#[], by rw [upd_ne (ne_of_none e hn), e]; simp⟩) (fun m hm => ?_) (fun b u e => ?_) I.bare
  · obtain ⟨f0, f1, f2, f3, f4, f5⟩ := hf b hb
    exact ⟨f3, f1, f4, f5⟩
  · obtain ⟨o, es, ep, ho, r⟩ := hm
    exact ⟨o, es, ep, k _ o (fun z => (hf _ z).2.1 rfl) ho, r⟩
  · by_cases hb : b = p
    · subst hb; rw [upd_same] at e; cases e; exact new
    · rw [upd_ne hb] at e
      refine (I.hok b u e).stay (fun c v hc q => k c v ?_ q) (fun c q => by rw [upd_ne (ne_of_none q hn)]; exact q) fun c ys q => by rw [upd_ne (ne_of_none q hn)]; exact q
      rcases hc with z | z
      · rw [z]; exact nit b u e
      · exact nit c _ z
noncomputable def Ite (K : PySem.W.Frag) (a : Addr) : It :=
  ⟨fun i H => ∃ xs x, SqL K H a xs ∧ xs[i]? = some x,
   fun i H v H' => ∃ p x, v = .ref p ∧ H p = none ∧ H' = upd H p (.tup [.int (i : Int), x]) ∧ ∀ xs, SqL K H a xs → xs[i]? = some x,
   fun i H => ∃ xs, SqL K H a xs ∧ xs.length ≤ i⟩
noncomputable def enTn (e it a : Addr) (i : Nat) (h : Heap) : Prop := (∃ old, IsEnum h e it (i : Int) old) ∧ h.IsListIter it a i
noncomputable def iEnum (K : PySem.W.Frag) (tl : TA) : TI := fun σ H R => tl σ H fun vs H1 => ∃ a, vs = [.ref a] ∧ (∃ xs, SqL K H1 a xs) ∧ R (Ite K a) H1
noncomputable def cxComp2 (X : Cx) (x y : Str) (scope : Scope) (fp : List Addr) (s : Shared) (H : Hp) : Cx := { cxComp X x scope fp s H with N := x :: y :: mkN scope X.N }
theorem comp_ok2 {X : Cx} {x y : Str} {scope : Scope} {fp : List Addr} {pins : List (Addr × Obj)} {σ : St} {H : Hp} {s : Shared} (I : Inv X pins σ H s) (C : CompScope X x scope) (hf : ∀ b ∈ fp, FpOk X pins H b) (ho : ∀ b ∈ fp, ∃ o, s.heap.get? b = some o) :
    (cxComp2 X x y scope fp s H).Ok := by
  have h := comp_ok I C hf ho
  exact ⟨h.mod, h.kind, h.glob, h.blt, h.above, h.inj, h.has, h.cab, h.hd, h.frames, h.stk, h.exf, h.bs, h.bsz, h.noex, h.exfs, h.funs, h.frf⟩
theorem comp_inv2 {X : Cx} {x y : Str} {scope : Scope} {fp : List Addr} {pins : List (Addr × Obj)} {σ : St} {H : Hp} {s : Shared} {h' : Heap} {tk : Nat} {m : Str → Option Value} (I : Inv X pins σ H s) (C : CompScope X x scope) (hf : ∀ b ∈ fp, FpOk X pins H b) (ho : ∀ b ∈ fp, ∃ o, s.heap.get? b = some o)
    (hn : h'.Ns s.heap.objs.size m) (k : ∀ b o, s.heap.get? b = some o → h'.get? b = some o) : Inv (cxComp2 X x y scope fp s H) pins (none :: none :: σ) H { s with heap := h', toks := tk } := by
  have J := comp_inv (x := x) (scope := scope) (fp := fp) (h' := h') (tk := tk) I C hf ho hn k
  refine ⟨comp_ok2 I C hf ho, J.os, J.bare, J.base, ?_, J.cell, J.free, J.freeC, J.pin, J.hok, ?_⟩
  · obtain ⟨m', hn', hl⟩ := J.loc
    refine ⟨m', hn', fun i z v h1 h2 h3 => ?_⟩
    cases i with
    | zero => simp at h2
    | succ i =>
      cases i with
      | zero => simp at h2
      | succ i => exact hl (i + 1) z v (by simpa [cxComp, cxComp2] using h1) (by simpa using h2) h3
  · show (none :: none :: σ).length = (x :: y :: mkN scope X.N).length
    rw [List.length_cons, List.length_cons, List.length_cons, List.length_cons, I.len, mkN, List.length_map]
theorem comp_out2 {X : Cx} {x y : Str} {scope : Scope} {fp : List Addr} {pins : List (Addr × Obj)} {σ σ' : St} {H H' : Hp} {s s' : Shared} {h' : Heap} (I : Inv X pins σ H s) (hf : ∀ b ∈ fp, FpOk X pins H b) (J : Inv (cxComp2 X x y scope fp s H) pins σ' H' s')
    (sb : Heap.SameBut s.heap.objs.size s'.heap h') : Inv X pins σ H' { s' with heap := h' } := by
  have hC : H' s.heap.objs.size = none := J.free
  have ne : ∀ b o, s.heap.get? b = some o → b ≠ s.heap.objs.size := fun b o e => Nat.ne_of_lt (Heap.lt_size e)
  have u : Un (frs X.stack) fp H H' s.heap h' :=
    ⟨fun b o e n hb hx => (sb.2 b (ne b o e)).trans (J.base.keep b o e n hb hx), fun b o e n hb hx => by
        obtain ⟨sl, q⟩ := J.base.slot b o e n hb hx
        exact ⟨sl, (sb.2 b (ne b o e)).trans q⟩, J.base.free, fun b o e hx => by
        obtain ⟨o', q⟩ := J.base.there b o e hx
        exact ⟨o', (sb.2 b (ne b o e)).trans q⟩, J.base.tups, J.base.frzs, J.base.tbls⟩
  have hok : HOk X.prog X.w H' h' := fun b ob e => by
    refine (J.hok b ob e).stay (fun c w' hc q => (sb.2 c ?_).trans q) (fun _ q => q) fun _ _ q => q
    intro z
    rcases hc with y | y
    · rw [z] at y; rw [← y, hC] at e; cases e
    · rw [z, hC] at y; cases y
  exact I.call' (s' := { s' with heap := h' }) J.os u hok J.bare fun b hb => ⟨(hf b hb).2.2.2.1, (hf b hb).2.1, (hf b hb).2.2.2.2.1, (hf b hb).2.2.2.2.2⟩
noncomputable def tComp2 (wi : TI) (g : TG) (te : TE) : TE := fun σ H Q => wi σ H fun J H1 => ∀ D, H1 D = none → ∃ W : Nat → Nat → List V → Hp → Prop, (∃ m, W 0 m [] (upd H1 D (.lst []))) ∧ ∀ i m ys H2, W i m ys H2 →
  (J.stop i H2 ∧ Q (.ref D) H2) ∨ (J.go i H2 ∧ ∃ N : List V → Hp → Prop, (∀ ys' H', N ys' H' → ∃ m', m' < m ∧ W (i + 1) m' ys' H') ∧
    ∀ x H', J.yld i H2 x H' → ∀ o1 o2, g x (o1 :: o2 :: σ) H' fun σ2 H3 => (∃ p1 p2, σ2 = p1 :: p2 :: σ) ∧ te σ2 H3 fun y H4 => H4 D = some (.lst ys) ∧ ys.length < sizeLine ∧ N (ys ++ [y]) (upd H4 D (.lst (ys ++ [y]))))
end L2
set_option Elab.async false
set_option linter.all false
set_option maxRecDepth 100000
set_option maxHeartbeats 4000000
namespace L2
open PySem PySem.Spec PyProof.Rows
noncomputable def tComp2c (wi : TI) (g : TG) (tc : TT) (te : TE) : TE := fun σ H Q => wi σ H fun J H1 => ∀ D, H1 D = none → ∃ W : Nat → Nat → List V → Hp → Prop, (∃ m, W 0 m [] (upd H1 D (.lst []))) ∧ ∀ i m ys H2, W i m ys H2 →
  (J.stop i H2 ∧ Q (.ref D) H2) ∨ (J.go i H2 ∧ ∃ N : List V → Hp → Prop, (∀ ys' H', N ys' H' → ∃ m', m' < m ∧ W (i + 1) m' ys' H') ∧
    ∀ x H', J.yld i H2 x H' → ∀ o1 o2, g x (o1 :: o2 :: σ) H' fun σ2 H3 => (∃ p1 p2, σ2 = p1 :: p2 :: σ) ∧ tc σ2 H3 fun b H5 => if b = true then te σ2 H5 fun y H4 => H4 D = some (.lst ys) ∧ ys.length < sizeLine ∧ N (ys ++ [y]) (upd H4 D (.lst (ys ++ [y]))) else N ys H5)
theorem comp_core2 {X : Cx} {elt iter tg : Expr} {x y : Str} {scope : Scope} {pos : Pos} {ifs : List Expr} {wi : TI} {g : TG} {tc : TT} {te : TE} (hc : X.calm = true) (C : CompScope X x scope)
    (hi : PI X tg iter wi) (hg : ∀ fp s H, PG (cxComp2 X x y scope fp s H) tg g) (ht : ∀ fp s H, PTs (cxComp2 X x y scope fp s H) ifs tc) (he : ∀ fp s H, PE (cxComp2 X x y scope fp s H) elt te)
    (hs : ∀ x, foldedSetIterable iter X.env x = pure x) {pins : List (Addr × Obj)} {s : Shared} {σ : St} {H : Hp} {Q : VK} (I : Inv X pins σ H s) (h : tComp2c wi g tc te σ H Q)
    {use : Option (Value → Sem Unit)} {QQ : Value → Shared → Prop} {ppos : Pos}
    (fin : ∀ {fp : List Addr} {s3 s5 : Shared} {H3 H4 : Hp} {D : Addr} {o1 o2 : Option V}, Inv X pins σ H3 s3 → (∀ b ∈ fp, FpOk X pins H3 b) → Inv (cxComp2 X x y scope fp s3 H3) pins (o1 :: o2 :: σ) H4 s5 → Q (.ref D) H4 → compPost (model X.prog X.w) X.A X.xe use QQ (.ref D) s3.heap.objs.size (.ok .next) s5) :
    wpAny (model X.prog X.w) X.A (comprehension (.ListComp elt [⟨tg, iter, ifs, 0⟩] scope pos) scope X.env ppos (newList []) false (eval iter X.env) use) QQ X.xe s := by
  refine wpAny_comprehension_free rfl hs (closureFor_some (C.cells I.ok)) C.kind C.locs (thn (hi pins s σ H _ I h) fun v s1 h1 => thn h1 fun itv s2 h2 => ?_)
  obtain ⟨it, fp, tn, J, H2, e, I2, T, st2, f2, R⟩ := h2
  subst e
  have hD : H2 s2.heap.objs.size = none := I2.hok.fresh (Nat.le_refl _)
  obtain ⟨W, ⟨m0, w0⟩, turn⟩ := R _ hD
  refine wpAny_newObj_type (wpAny_newFunctionEnv C.nocell (by intro y hy; simp at hy) (fun h₁ hns₁ hsb₁ => ?_) C.kind)
  dsimp only at hns₁ hsb₁ ⊢
  have I3 : Inv X pins σ (upd H2 s2.heap.objs.size (.lst [])) { s2 with heap := s2.heap.push { cls := .type "list", dict := none, data := .seq ([] : List Value).toArray } } :=
    I2.laid (t' := s2.toks) (o := .lst []) (fun b ob q => Heap.get?_push_of_some _ q) (Nat.le_refl _) ⟨Nat.zero_le _, [], 0, .nil, Heap.get?_push_size _ rfl⟩
  have f3 : ∀ b ∈ fp, FpOk X pins (upd H2 s2.heap.objs.size (.lst [])) b := fun b hb => by
    obtain ⟨o, e, _⟩ := T.obj _ _ st2 b hb
    obtain ⟨g0, g⟩ := f2 b hb
    exact ⟨by rw [upd_ne (Nat.ne_of_lt (Heap.lt_size e))]; exact g0, g⟩
  have o3 : ∀ b ∈ fp, ∃ o, (s2.heap.push { cls := .type "list", dict := none, data := .seq ([] : List Value).toArray }).get? b = some o := fun b hb => by
    obtain ⟨o, e, _⟩ := T.obj _ _ st2 b hb
    exact ⟨o, Heap.get?_push_of_some _ e⟩
  have old : ∀ b o, (s2.heap.push { cls := .type "list", dict := none, data := .seq ([] : List Value).toArray }).get? b = some o → h₁.get? b = some o := fun b o e =>
    hsb₁.extBut b o (Nat.ne_of_lt (Heap.lt_size e)) (Heap.get?_push_of_some _ e)
  have K0 := comp_inv2 (x := x) (y := y) (scope := scope) (fp := fp) (h' := h₁) (tk := s2.toks) I3 C f3 o3 hns₁ old
  have st3 : tn 0 h₁ := T.keep _ _ _ st2 fun b _ o e => old b o (Heap.get?_push_of_some _ e)
  generalize hs3 : ({ s2 with heap := s2.heap.push { cls := .type "list", dict := none, data := .seq ([] : List Value).toArray } } : Shared) = s3 at I3 K0
  have es3 : s2.heap.push { cls := .type "list", dict := none, data := .seq ([] : List Value).toArray } = s3.heap := by rw [← hs3]
  generalize hH3 : upd H2 s2.heap.objs.size (.lst []) = H3 at I3 K0 f3 w0
  have stat : ∀ {H' : Hp}, (∀ b ∈ fp, H' b = none) → ∀ b ∈ fp, FpOk (cxComp2 X x y scope fp s3 H3) pins H' b := fun {H'} hn b hb => by
    obtain ⟨o, e⟩ := o3 b hb
    rw [es3] at e
    obtain ⟨g0, g1, g2, g3, g4, g5⟩ := f3 b hb
    refine ⟨hn b hb, Nat.ne_of_lt (Heap.lt_size e), fun z => ?_, .inl hb, fun y c h => g4 y c (C.cell_of I.ok h).2, g5⟩
    rcases List.mem_cons.mp (I3.stkSub _ z) with q | q
    · exact g1 q
    · exact g2 q
  have loop : codeAny (model X.prog X.w) X.A (.compLoop (.ListComp elt [⟨tg, iter, ifs, 0⟩] scope pos) 0 (.ref it) (.ref s2.heap.objs.size) (cxComp2 X x y scope fp s3 H3).env)
      (compPost (model X.prog X.w) X.A X.xe use QQ (Value.ref s2.heap.objs.size) s3.heap.objs.size) { s3 with heap := h₁, toks := s2.toks } := by
    refine compLoop_go (fun n s' => ∃ i o1 o2 ys H', Inv (cxComp2 X x y scope fp s3 H3) pins (o1 :: o2 :: σ) H' s' ∧ tn i s'.heap ∧ (∀ b ∈ fp, H' b = none) ∧ W i n ys H') ?_ m0 ⟨0, none, none, [], H3, K0, st3, fun b hb => (f3 b hb).1, w0⟩
    rintro n s4 ⟨i, o1, o2, ys, H4, I4, st4, fr4, w4⟩
    rcases turn i n ys H4 w4 with ⟨stop, qn⟩ | ⟨go, N, hNN, step⟩
    · refine thn (T.done (cxComp2 X x y scope fp s3 H3) rfl rfl rfl hc i pins s4 (o1 :: o2 :: σ) H4 _ I4 (stat fr4) st4 stop) fun r s5 ⟨hr, I5⟩ => ?_
      subst hr
      exact fin I3 f3 I5 qn
    · refine thn (T.item (cxComp2 X x y scope fp s3 H3) rfl rfl rfl hc i pins s4 (o1 :: o2 :: σ) H4 _ I4 (stat fr4) st4 go) fun r s5 ⟨u, hr, h5⟩ => ?_
      subst hr
      refine thn h5 fun _ s6 ⟨yv, H6, I6, r6, y6, st6, fr6⟩ => ?_
      have I6' := I6.pinned (stat fr6) (T.obj _ _ st6)
      have keepS : ∀ {q1 q2 : Option V} {H' : Hp} {s' : Shared}, Inv (cxComp2 X x y scope fp s3 H3) (pins ++ pinsAt fp s6.heap) (q1 :: q2 :: σ) H' s' → tn (i + 1) s'.heap ∧ ∀ b ∈ fp, H' b = none := fun {q1 q2 H' s'} I' => by
        refine ⟨T.keep _ _ _ st6 fun b hb o e => (I'.pin (b, o) (List.mem_append_right _ (List.mem_append_right _ (mem_pinsAt hb e)))).1, fun b hb => ?_⟩
        obtain ⟨o, e, d⟩ := T.obj _ _ st6 b hb
        exact (I'.pin (b, o) (List.mem_append_right _ (List.mem_append_right _ (mem_pinsAt hb e)))).2.1
      refine wpAny_mono (hg fp s3 H3 _ s6 (o1 :: o2 :: σ) H6 yv u _ I6' r6 (step yv H6 y6 o1 o2)) (fun _ s7 ⟨σ7, H7, I7, ⟨p1, p2, hσ⟩, q7⟩ => ?_) fun _ _ z => False.elim z
      subst hσ
      refine wpAny_mono (ht fp s3 H3 _ s7 (p1 :: p2 :: σ) H7 _ I7 q7) (fun bb s8 ⟨H8, I8, q8⟩ => ?_) fun _ _ z => False.elim z
      cases bb with
      | false =>
        rw [if_neg Bool.false_ne_true] at q8 ⊢
        obtain ⟨m', hm, w8⟩ := hNN ys H8 q8
        obtain ⟨a1, a2⟩ := keepS I8
        exact ⟨m', hm, i + 1, p1, p2, ys, H8, I8.unpinned, a1, a2, w8⟩
      | true =>
      rw [if_pos rfl] at q8 ⊢
      refine wpAny_mono (he fp s3 H3 _ s8 (p1 :: p2 :: σ) H8 _ I8 q8) (fun v9 s9 ⟨y9, H9, I9, r9, hacc, hsz, q9⟩ => ?_) fun _ _ z => False.elim z
      refine wpAny_mono (mt_append (X := cxComp2 X x y scope fp s3 H3) _ s9 (p1 :: p2 :: σ) H9 (.ref s2.heap.objs.size) [y9] _ [v9] (fun _ H' => N (ys ++ [y9]) H') I9 rfl (.cons r9 .nil) ⟨_, _, _, rfl, rfl, hacc, hsz, q9⟩) (fun _ s10 ⟨_, H10, I10, _, q10⟩ => ?_) fun _ _ z => False.elim z
      obtain ⟨m', hm, w10⟩ := hNN _ H10 q10
      obtain ⟨a1, a2⟩ := keepS I10
      exact ⟨m', hm, i + 1, p1, p2, _, H10, I10.unpinned, a1, a2, w10⟩
  have eC : (s2.heap.push { cls := .type "list", dict := none, data := .seq ([] : List Value).toArray }).objs.size = s3.heap.objs.size := by rw [es3]
  rw [eC]
  have es4 : ({ heap := h₁, gens := s2.gens, drawn := s2.drawn, toks := s2.toks + ([] : List (Str × Value)).length, os := s2.os } : Shared) = { s3 with heap := h₁, toks := s2.toks } := by rw [← hs3]; rfl
  rw [es4]
  exact codeAny_compStart_list loop (T.self _ 0 _ _ _ st3 loop)
theorem pe_comp2c {X : Cx} {elt iter tg : Expr} {x y : Str} {scope : Scope} {pos : Pos} {ifs : List Expr} {wi : TI} {g : TG} {tc : TT} {te : TE} (hc : X.calm = true) (C : CompScope X x scope)
    (hi : PI X tg iter wi) (hg : ∀ fp s H, PG (cxComp2 X x y scope fp s H) tg g) (ht : ∀ fp s H, PTs (cxComp2 X x y scope fp s H) ifs tc) (he : ∀ fp s H, PE (cxComp2 X x y scope fp s H) elt te)
    (hs : ∀ x, foldedSetIterable iter X.env x = pure x) : PE X (.ListComp elt [⟨tg, iter, ifs, 0⟩] scope pos) (tComp2c wi g tc te) := by
  intro pins s σ H Q I h
  rw [eval_ListComp]
  refine comp_core2 (use := none) hc C hi hg ht he hs I h fun I3 f3 I5 qn => ?_
  obtain ⟨m5, hn5, _⟩ := id I5.loc
  exact ⟨m5, hn5, fun h' sb => ⟨.ref _, _, comp_out2 I3 f3 I5 sb, rfl, qn⟩⟩
theorem ps_setComp2 {X : Cx} {elt iter : Expr} {ifs : List Expr} {x y z : Str} {p1 p2 p3 pz : Pos} {k : Nat} {scope : Scope} {pos spos : Pos} {wi : TI} {g : TG} {tc : TT} {te : TE} {i : Nat} (hc : X.calm = true) (C : CompScope X x scope) (hN : X.N.Nodup)
    (hi : PI X (.Tuple [.Name x p1, .Name y p2] k p3) iter wi) (hg : ∀ fp s H, PG (cxComp2 X x y scope fp s H) (.Tuple [.Name x p1, .Name y p2] k p3) g) (ht : ∀ fp s H, PTs (cxComp2 X x y scope fp s H) ifs tc) (he : ∀ fp s H, PE (cxComp2 X x y scope fp s H) elt te)
    (hs : ∀ x, foldedSetIterable iter X.env x = pure x) (hy : X.N[i]? = some z) (hl : Loc X.env.scope z) (hf : X.fn z = true ∨ X.env.scope.names.lookup z = some .local) :
    PS X (.Assign [.Name z pz] (.ListComp elt [⟨.Tuple [.Name x p1, .Name y p2] k p3, iter, ifs, 0⟩] scope pos) spos) (tAsg (tComp2c wi g tc te) (gName i)) := by
  have hb : ∃ b, swapsWith (.ListComp elt [⟨.Tuple [.Name x p1, .Name y p2] k p3, iter, ifs, 0⟩] scope pos) (some (.Name z pz)) spos.line X.env = pure b := ⟨_, rfl⟩
  obtain ⟨b, hb⟩ := hb
  cases b with
  | false => exact ps_set hN hy hl (pe_comp2c hc C hi hg ht he hs) hb hf
  | true =>
    intro pins s σ H D I h
    rw [exec_Assign_Name_used _ _ _ _ hb]
    refine wpAny_bind (wpAny_standAt (wpAny_bind ?_))
    show wpAny _ X.A (do let _ ← comprehension (.ListComp elt [⟨.Tuple [.Name x p1, .Name y p2] k p3, iter, ifs, 0⟩] scope pos) scope X.env _ (newList []) false (eval iter X.env) (some (assign (.Name z pz) X.env))) _ _ s
    refine wpAny_bind (wpAny_mono (comp_core2 (use := some (assign (.Name z pz) X.env)) (QQ := fun _ s' => SP X pins D .next s') hc C hi hg ht he hs I h fun {fp s3 s5 H3 H4 Dd o1 o2} I3 f3 I5 qn => ?_) (fun _ s' hq => wpAny_pure (wpAny_pure hq)) fun _ _ e => e)
    have I6 : Inv X pins σ H4 s5 := by
      have := comp_out2 I3 f3 I5 (Heap.SameBut.refl _ _)
      exact this
    obtain ⟨m5, hn5, _⟩ := id I5.loc
    have hC0 : H4 s3.heap.objs.size = none := I5.free
    have hCL : X.env.locals ≠ s3.heap.objs.size := Nat.ne_of_lt I3.lt
    show wpAny _ X.A (assign (.Name z pz) X.env (.ref Dd)) _ _ _
    refine wpAny_assign_Name (store_ok2 (v := .ref Dd) I6 hN hy hl rfl (fun s7 I7 hch => ?_) hf)
    obtain ⟨a, sb, ha⟩ := hch
    have hCa : s3.heap.objs.size ≠ a := by
      rcases ha with rfl | ha
      · exact hCL.symm
      · obtain ⟨v, q⟩ := I3.cell z a ha
        exact (Nat.ne_of_lt q.lt).symm
    refine ⟨m5, hn5.sameBut sb hCa, fun h' sb' => ⟨_, H4, ?_, qn⟩⟩
    refine I7.turned (t' := s7.toks) (it := s3.heap.objs.size) (fun b o hb e => (sb'.2 b hb).trans e) hC0 hCL.symm (.inr I3.sz) (fun z c e => ?_) fun p hp => ?_
    · obtain ⟨v, q⟩ := I3.cell z c e
      exact Nat.ne_of_lt q.lt
    · exact Nat.ne_of_lt (Heap.lt_size (I3.pin p hp).1)
end L2
set_option Elab.async false
set_option linter.all false
set_option maxRecDepth 100000
set_option maxHeartbeats 4000000
namespace L2
open PySem PySem.Spec PyProof.Rows
section
variable {prog : Program} {w : World} {A : Around} {E : Value → Shared → Prop} {s : Shared}
theorem draw_list {it t : Addr} {items : Array Value} (hne : t ≠ it) : ∀ (n i : Nat) (s : Shared) (Q : List Value → Shared → Prop), s.heap.IsListIter it t i → s.heap.IsList t items → i + n ≤ items.size →
    (∀ h', h'.IsListIter it t (i + n) → Heap.SameBut it s.heap h' → Q ((items.toList.drop i).take n) { s with heap := h' }) → wpAny (model prog w) A (draw (.ref it) n) Q E s
  | 0, i, s, Q, hit, _, _, hQ => by
    show wpAny _ _ (pure []) Q E s
    exact wpAny_pure (by simpa using hQ s.heap hit (Heap.SameBut.refl ..))
  | n + 1, i, s, Q, hit, ht, hle, hQ => by
    have hlt : i < items.size := by omega
    show wpAny _ _ (pyNext (.ref it) >>= _) Q E s
    refine wpAny_bind (wpAny_pyNext_list_item hit ht (x := items[i]) (by simp [hlt]) fun h₁ hit₁ hs₁ => ?_)
    replace hs₁ : Heap.SameBut it s.heap h₁ := hs₁
    refine wpAny_bind (wpAny_holding (draw_list hne n (i + 1) _ _ hit₁ (ht.at fun o e => (hs₁.2 t hne).trans e) (by omega) fun h₂ hit₂ hs₂ => wpAny_pure ?_))
    have hd : items.toList.drop i = items[i] :: items.toList.drop (i + 1) := by simp [List.drop_eq_getElem_cons, hlt]
    have := hQ h₂ (by rw [show i + (n + 1) = i + 1 + n by omega]; exact hit₂) (hs₁.trans hs₂)
    rw [hd, List.take_succ_cons] at this
    exact this
theorem unpackItems_list {t : Addr} {items : Array Value} {Q : List Value → Shared → Prop} (hh : A.handled = none) (ht : s.heap.IsList t items)
    (hQ : ∀ h', Heap.ExtBut s.heap.objs.size s.heap h' → Q items.toList { s with heap := h' }) : wpAny (model prog w) A (unpackItems (.ref t) items.size none) Q E s := by
  have hlt : t ≠ s.heap.objs.size := by obtain ⟨o, ho, _⟩ := ht; exact Nat.ne_of_lt (Heap.lt_size ho)
  unfold unpackItems
  refine wpAny_bind ?_
  · unfold notIterableAtAll
    refine wpAny_bind (wpAny_specialOf ht.typeIs slot_list_iter.lookup ?_)
    refine wpAny_pure ?_
    simp only [Bool.false_eq_true, if_false]
    refine wpAny_bind (wpAny_holding (wpAny_pyIter_list ht ?_))
    refine wpAny_bind (wpAny_holding (draw_list hlt items.size 0 _ _ ⟨_, Heap.get?_push_size _ rfl, rfl, rfl⟩ (ht.at fun o e => Heap.get?_push_of_some _ e) (by omega) fun h₁ hit₁ hs₁ => ?_))
    have hall : List.take items.size (List.drop 0 items.toList) = items.toList := by
      rw [List.drop_zero]; exact List.take_of_length_le (by simp)
    rw [hall]
    rw [if_neg (by simp)]
    have ht₁ : h₁.IsList t items := ht.at fun o e => (hs₁.2 t hlt).trans (Heap.get?_push_of_some _ e)
    refine wpAny_bind (wpAny_holding (wpAny_pyNext_list_end hh hit₁ ht₁ (by simp) fun h₂ he₂ => ?_))
    simp only [Option.isSome_none, Bool.false_eq_true, if_false]
    refine wpAny_pure (hQ h₂ fun b o hb e => he₂ b o hb (hs₁.extBut b o hb (Heap.get?_push_of_some _ e)))
theorem assign_Tuple_list {env : Env} {elts : List Expr} {x1} {pos : Pos} {t : Addr} {items : Array Value} {Q : Unit → Shared → Prop} (hh : A.handled = none) (ht : s.heap.IsList t items)
    (hn : (assignEach elts env).length = items.size) (hstar : (assignEach elts env).findIdx? (·.1) = none)
    (h : ∀ h', Heap.ExtBut s.heap.objs.size s.heap h' → wpAny (model prog w) A (assignInOrder ((assignEach elts env).map (·.2)) items.toList) Q E { s with heap := h' }) :
    wpAny (model prog w) A (assign (.Tuple elts x1 pos) env (.ref t)) Q E s := by
  rw [assign_Tuple]
  refine wpAny_bind (wpAny_standAt ?_)
  unfold unpack
  rw [hn, hstar]
  exact wpAny_bind (wpAny_holding (unpackItems_list hh ht h))
end
section
variable {X : Cx} {pos : Pos}
noncomputable def gSeq (K : PySem.W.Frag) (n : Nat) (t : TGs) : TG := fun v σ H Q => ∃ a xs, v = .ref a ∧ (SqL K H a xs ∨ SqT K H a xs) ∧ xs.length = n ∧ t xs σ H Q
theorem pg_seq {es : List Expr} {k : Nat} {t : TGs} {n : Nat} (hc : X.calm = true) (h : PGs X es t)
    (hn : (assignEach es X.env).length = n) (hst : (assignEach es X.env).findIdx? (·.1) = none) : PG X (.Tuple es k pos) (gSeq X.K n t) := by
  intro pins s σ H v u Q I r hw
  obtain ⟨a, xs, e1, hq, hl, hw⟩ := hw
  subst e1
  cases r
  rcases hq with hq | hq
  · obtain ⟨its, rv, ht, hz⟩ := I.list hq
    refine assign_Tuple_list (I.ok.hd hc) ht.isList (by simp [hn, ← hl, rv.length]) hst fun h' hx => ?_
    have I1 : Inv X pins σ H { s with heap := h' } := I.kept (t' := s.toks) fun b o e => hx b o (Nat.ne_of_lt (Heap.lt_size e)) e
    exact h pins _ σ H xs _ Q I1 (by simpa using rv) hw
  · obtain ⟨its, rv, ht, hz⟩ := I.tuple hq
    refine assign_Tuple_tuple (I.ok.hd hc) ht (by simp [hn, ← hl, rv.length]) hst fun h' hx => ?_
    have I1 : Inv X pins σ H { s with heap := h' } := I.kept (t' := s.toks) fun b o e => hx b o (Nat.ne_of_lt (Heap.lt_size e)) e
    exact h pins _ σ H xs _ Q I1 (by simpa using rv) hw
end
noncomputable def rUpd : V → List V → Hp → VK → Prop := fun x vs H Q => ∃ l b xs zs, x = .ref l ∧ vs = [.ref b] ∧ l ≠ b ∧ H l = some (.dK xs) ∧ H b = some (.dK zs) ∧ xs.length + zs.length ≤ sizeLine ∧ Q .non (upd H l (.dK (mergeK xs zs)))
end L2
set_option Elab.async false
set_option linter.all false
set_option maxRecDepth 100000
set_option maxHeartbeats 4000000
namespace L2
open PySem PySem.Spec PyProof.Rows
theorem meets_extend_tup (l b : Addr) (items : Array Value) (n : Nat) (items2 : Array Value) (n2 : Nat) (hz : items.size + items2.size ≤ sizeLine) :
    Meets (Builtin.«list.extend» { pos := [.ref l, .ref b] }) fun _ R s => ∃ ob, s.heap.get? l = some { cls := .type "list", data := .seq items n } ∧ s.heap.get? b = some ob ∧ ob.cls = .type "tuple" ∧ ob.data = .seq items2 n2 ∧
      R (.ok (.ret .none)) { s with heap := s.heap.update l (Obj.mapSeq fun x => x ++ items2) } := by
  intro prog w A R s ⟨ob, hl, hb, hc, hd, hR⟩
  unfold Builtin.«list.extend»
  refine wpAny_bind ?_
  refine wpAny_pure (a := (Value.ref l, Value.ref b)) ?_
  show wpAny _ _ (Builtin.List.listExtendWith (.ref l) (.ref b) .none) _ _ _
  unfold Builtin.List.listExtendWith
  refine wpAny_bind (wpAny_typeOf_ref hb ?_)
  rw [hc]
  rw [if_pos (by simp)]
  refine wpAny_bind (listItems_at hb hd ?_)
  refine wpAny_bind (listItems_at hl rfl ?_)
  rw [if_neg (by rw [notLongL hz]; simp)]
  refine wpAny_bind (listUpdate_at hl rfl ?_ (by omega) (by simp; omega))
  exact wpAny_pure hR
section
variable {X : Cx}
noncomputable def rExtend2 (K : PySem.W.Frag) : V → List V → Hp → VK → Prop := fun x vs H Q => ∃ l b xs zs, x = .ref l ∧ vs = [.ref b] ∧ H l = some (.lst xs) ∧ (H b = some (.lst zs) ∨ SqT K H b zs) ∧ xs.length + zs.length ≤ sizeLine ∧ Q .non (upd H l (.lst (xs ++ zs)))
theorem mt_extend2 : MtM X "list.extend" (rExtend2 X.K) := by
  intro pins s σ H x vs v us Q I rx rv h
  obtain ⟨l, b, xs, zs, rfl, rfl, hH, hB, hz, q⟩ := h
  rcases hB with hB | hB
  · exact mt_extend pins s σ H _ _ v us Q I rx rv ⟨l, b, xs, zs, rfl, rfl, hH, hB, hz, q⟩
  · cases rx
    obtain ⟨u, rfl, ru⟩ := rv.one
    cases ru
    obtain ⟨z, its, n, r, hl, e⟩ := I.lstM hH
    obtain ⟨its2, r2, ⟨ob, ho, hc, n2, hd⟩, z2⟩ := I.tuple hB
    have hl2 := r2.length
    refine call_meets F.slot_list_extend ⟨_, e, rfl⟩ F.entry_list_extend (F.args_list_extend_2 _ _)
      (meets_extend_tup l b its.toArray n its2.toArray n2 (by rw [List.size_toArray, List.size_toArray]; omega)) ⟨ob, e, ho, hc, hd, ?_⟩
    refine ⟨.non, _, I.lset (its' := its ++ its2) hH e (by simp) (r.append r2) ?_, rfl, q⟩
    rw [List.length_append]
    omega
end
end L2
set_option Elab.async false
set_option linter.all false
set_option maxRecDepth 100000
set_option maxHeartbeats 4000000
namespace PySem
open Sem (wp)
noncomputable def Heap.RawD (h : Heap) (d : Addr) (es : Array DictEntry) (ep : Nat) : Prop := ∃ o, h.get? d = some o ∧ o.ExactDict ∧ o.data = .dict es ep
section
variable {prog : Program} {w : World} {A : Around} {E : Value → Shared → Prop} {s : Shared} {d it v : Addr} {es : Array DictEntry} {i ep : Nat}
theorem Heap.RawD.ty (x : s.heap.RawD d es ep) : s.TypeIs (.ref d) "dict" := let ⟨o, ho, hc, _⟩ := x; ⟨o, ho, hc.1⟩
theorem Heap.RawD.lt {h : Heap} (x : h.RawD d es ep) : d < h.objs.size := let ⟨_, ho, _⟩ := x; Heap.lt_size ho
theorem Heap.RawD.at {h h' : Heap} (x : h.RawD d es ep) (e : ∀ o, h.get? d = some o → h'.get? d = some o) : h'.RawD d es ep := let ⟨o, ho, r⟩ := x; ⟨o, e _ ho, r⟩
theorem raw_iter {Q : Value → Shared → Prop} (hd : (d == sysModules) = false) (x : s.heap.RawD d es ep)
    (hQ : Q (.ref s.heap.objs.size) { s with heap := s.heap.push { cls := .type "dict_keyiterator", data := .fields #[.ref d, .int 0 0, .int es.size 0, .int ep 0] } }) : wpAny (model prog w) A (pyIter (.ref d)) Q E s := by
  obtain ⟨o, ho, hc, hdat⟩ := id x
  have hT := x.ty
  refine wpAny_pyIter_slot hT F.slot_dict_iter (wpAny_call_entry F.slot_dict_iter hT F.entry_dict_iter ?_ (F.args_dict_iter_1 _))
  unfold Builtin.«dict.__iter__» Builtin.Dict.dictSlotNone
  refine wpAny_bind (wpAny_bind (wpAny_notOrdered_dict hT (wpAny_pure ?_)))
  show wpAny _ _ (Builtin.Dict.showsAll d >>= _) _ _ s
  unfold Builtin.Dict.showsAll
  rw [if_neg (by rw [hd]; decide)]
  refine wpAny_bind (wpAny_pure (wpAny_bind (wpAny_dictEntries ho hdat (wpAny_bind (wpAny_dictEpoch ho hdat (wpAny_bind (wpAny_newObj_type (wpAny_pure ⟨_, rfl, "dict_keyiterator", _, ⟨_, Heap.get?_push_size _ rfl, rfl⟩, F.slot_dict_keyiterator_next.lookup, ?_⟩))))))))
  simpa [rawInt] using hQ
noncomputable def Heap.RawIt (h : Heap) (T : String) (it d : Addr) (i n ep : Nat) : Prop := ∃ o, h.get? it = some o ∧ o.cls = .type T ∧ o.data = .fields #[.ref d, .int i 0, .int n 0, .int ep 0]
theorem Heap.RawIt.ty {T : String} {n : Nat} (x : s.heap.RawIt T it d i n ep) : s.TypeIs (.ref it) T := let ⟨o, ho, hc, _⟩ := x; ⟨o, ho, hc⟩
theorem Heap.RawIt.at {h h' : Heap} {T : String} {n : Nat} (x : h.RawIt T it d i n ep) (e : ∀ o, h.get? it = some o → h'.get? it = some o) : h'.RawIt T it d i n ep := let ⟨o, ho, r⟩ := x; ⟨o, e _ ho, r⟩
theorem Heap.RawIt.moved {h : Heap} {T : String} {n : Nat} {o : Obj} (ho : h.get? it = some o) (hc : o.cls = .type T) (hd : o.data = .fields #[.ref d, .int i 0, .int n 0, .int ep 0]) :
    (h.update it (Obj.mapFields (·.setIfInBounds 1 (rawInt ((i : Int) + 1))))).RawIt T it d (i + 1) n ep :=
  ⟨_, Heap.get?_update_self _ ho (Obj.isFreed_of_fields (Obj.data_mapFields hd _)), (Obj.cls_mapFields ..).trans hc, by rw [Obj.data_mapFields hd]; simp [rawInt]⟩
theorem stop_raised {Q : Option Value → Shared → Prop} {h' : Heap} (hh : A.handled = none) (hs : Heap.ExtBut it s.heap h') (hQ : ∀ h', Heap.ExtBut it s.heap h' → Q none { s with heap := h' }) :
    wpAny (model prog w) A.in1 (newExc (.type "StopIteration") [] >>= fun e => raiseNew (α := Fin) e) (fun fin s' => ∃ v, fin = .done (.ret v) ∧ wpAny (model prog w) A (pure (some v)) Q E s')
      (fun e s' => wpAny (model prog w) A (isInstance e (.type "StopIteration") >>= fun b => if b = true then pure none else throw e) Q E s') { s with heap := h' } := by
  refine wpAny_bind ?_
  simp only [newExc, newTuple]
  refine wpAny_bind (wpAny_newObj_type (wpAny_bind (m := firstArgMember _ _) (wpAny_of_eq (a := Value.none) (by first | rfl | (simp only [firstArgMember]; rfl)) (wpAny_newObj_type ?_ (by size_fits)))) (by size_fits))
  simp only [raiseNew]
  refine wpAny_bind (wpAny_handled ?_)
  rw [show A.in1.handled = none from hh]
  refine wpAny_bind (wpAny_pure (wpAny_throw ?_))
  refine wpAny_bind (wpAny_isInstance (T := "StopIteration") (b := true) ⟨_, Heap.get?_push_size _ rfl, rfl⟩ isSubtype_stop (wpAny_pure (hQ _ ((hs.push _).push _))))
theorem key_next {Q : Option Value → Shared → Prop} (hit : s.heap.RawIt "dict_keyiterator" it d i es.size ep) (x : s.heap.RawD d es ep) (hi : i < es.size)
    (hQ : ∀ h', h'.RawIt "dict_keyiterator" it d (i + 1) es.size ep → Heap.SameBut it s.heap h' → Q (some es[i].key) { s with heap := h' }) : wpAny (model prog w) A (pyNext (.ref it)) Q E s := by
  obtain ⟨o, ho, hc, hd⟩ := id hit
  obtain ⟨od, hod, _, hdd⟩ := id x
  have hT := hit.ty
  have mv := Heap.RawIt.moved ho hc hd
  unfold pyNext
  refine wpAny_bind (wpAny_attempt (wpAny_callSpecial?_slot (name := Str.ofString "__next__") hT F.slot_dict_keyiterator_next (wpAny_call_entry F.slot_dict_keyiterator_next hT F.entry_dict_keyiterator_next ?_ (F.args_dict_keyiterator_next_1 _))))
  refine wpAny_bind (wpAny_pure (wpAny_bind (wpAny_bind (wpAny_bind (wpAny_typeNameOfWhole_keyiter hT (wpAny_pure (wpAny_bind (wpAny_fieldsOf ho hd ?_))))))))
  rw [show Builtin.Dict_items.ownsTuple "dict_keyiterator" = false from by decide]
  show wpAny _ _ (if (Value.ref d == Value.none) = true then _ else _) _ _ s
  rw [if_neg (by simp)]
  refine wpAny_bind (wpAny_pure (wpAny_bind (wpAny_dictEntries hod hdd ?_)))
  rw [if_neg (by simp)]
  refine wpAny_bind (wpAny_pure (wpAny_bind (wpAny_dictEpoch hod hdd ?_)))
  rw [if_neg (by simp)]
  refine wpAny_pure ?_
  simp only [show ¬ ((i : Int) < 0) from by omega, if_false, Int.toNat_natCast, Array.getElem?_eq_getElem hi]
  refine wpAny_bind (wpAny_bind (wpAny_typeNameOfWhole_keyiter hT (wpAny_pure (wpAny_bind (wpAny_isOneOf_keyiter hT ?_)))))
  show wpAny _ _ (setField (.ref it) 1 (rawInt ((i : Int) + 1)) >>= _) _ _ s
  refine wpAny_bind (wpAny_setField ho hd (by simp) (wpAny_bind (wpAny_holding (wpAny_bind (wpAny_isOneOf_keyiter (Heap.RawIt.ty (s := { s with heap := _ }) mv) ?_)))))
  exact wpAny_pure (wpAny_pure ⟨_, rfl, wpAny_pure (hQ _ mv (Heap.SameBut.update ..))⟩)
theorem key_end {Q : Option Value → Shared → Prop} (hh : A.handled = none) (hit : s.heap.RawIt "dict_keyiterator" it d i es.size ep) (x : s.heap.RawD d es ep) (hi : es.size ≤ i)
    (hQ : ∀ h', Heap.ExtBut it s.heap h' → Q none { s with heap := h' }) : wpAny (model prog w) A (pyNext (.ref it)) Q E s := by
  obtain ⟨o, ho, hc, hd⟩ := id hit
  obtain ⟨od, hod, _, hdd⟩ := id x
  have hT := hit.ty
  unfold pyNext
  refine wpAny_bind (wpAny_attempt (wpAny_callSpecial?_slot (name := Str.ofString "__next__") hT F.slot_dict_keyiterator_next (wpAny_call_entry F.slot_dict_keyiterator_next hT F.entry_dict_keyiterator_next ?_ (F.args_dict_keyiterator_next_1 _))))
  refine wpAny_bind (wpAny_pure (wpAny_bind (wpAny_bind (wpAny_bind (wpAny_typeNameOfWhole_keyiter hT (wpAny_pure (wpAny_bind (wpAny_fieldsOf ho hd ?_))))))))
  rw [show Builtin.Dict_items.ownsTuple "dict_keyiterator" = false from by decide]
  show wpAny _ _ (if (Value.ref d == Value.none) = true then _ else _) _ _ s
  rw [if_neg (by simp)]
  refine wpAny_bind (wpAny_pure (wpAny_bind (wpAny_dictEntries hod hdd ?_)))
  rw [if_neg (by simp)]
  refine wpAny_bind (wpAny_pure (wpAny_bind (wpAny_dictEpoch hod hdd ?_)))
  rw [if_neg (by simp)]
  refine wpAny_pure ?_
  simp only [show ¬ ((i : Int) < 0) from by omega, if_false, Int.toNat_natCast, Array.getElem?_eq_none hi]
  refine wpAny_bind (wpAny_bind (wpAny_typeNameOfWhole_keyiter hT (wpAny_pure ?_)))
  show wpAny _ _ (setField (.ref it) 0 .none >>= _) _ _ s
  exact wpAny_bind (wpAny_setField ho hd (by simp) (stop_raised hh (Heap.SameBut.update ..).extBut hQ))
theorem raw_values {Q : Value → Shared → Prop} (hd : (d == sysModules) = false) (x : s.heap.RawD d es ep) (hQ : Q (.ref s.heap.objs.size) { s with heap := s.heap.push { cls := .type "dict_values", data := .fields #[.ref d] } }) :
    wpAny (model prog w) A (call (.builtin "dict.values") [.ref d]) Q E s := by
  have hT := x.ty
  refine wpAny_call_entry F.slot_dict_values hT F.entry_dict_values ?_ (F.args_dict_values_1 _)
  refine wpAny_bind ?_
  unfold Builtin.Dict.noArgs
  refine wpAny_bind (wpAny_notOrdered_dict hT (wpAny_pure ?_))
  show wpAny _ _ (Builtin.Dict.showsAll d >>= _) _ _ s
  unfold Builtin.Dict.showsAll
  rw [if_neg (by rw [hd]; decide)]
  exact wpAny_bind (wpAny_pure (wpAny_bind (wpAny_newObj_type (wpAny_pure ⟨_, rfl, hQ⟩))))
theorem raw_iterV {Q : Value → Shared → Prop} (hv : s.heap.IsValuesView v d) (x : s.heap.RawD d es ep)
    (hQ : Q (.ref s.heap.objs.size) { s with heap := s.heap.push { cls := .type "dict_valueiterator", data := .fields #[.ref d, .int 0 0, .int es.size 0, .int ep 0] } }) : wpAny (model prog w) A (pyIter (.ref v)) Q E s := by
  obtain ⟨ov, hov, _, hdv⟩ := id hv
  obtain ⟨o, ho, _, hdat⟩ := id x
  refine wpAny_pyIter_slot hv.typeIs F.slot_dict_values_iter (wpAny_call_entry F.slot_dict_values_iter hv.typeIs F.entry_dict_values_iter ?_ (F.args_dict_values_iter_1 _))
  unfold Builtin.«dict_values.__iter__» Builtin.Dict_items.dictOf Builtin.Dict_items.newIterator
  refine wpAny_bind (wpAny_pure (wpAny_bind (wpAny_bind (wpAny_field hov hdv (x := .ref d) rfl (wpAny_pure (wpAny_bind (wpAny_bind (wpAny_dictEntries ho hdat (wpAny_bind (wpAny_dictEpoch ho hdat ?_))))))))))
  simp only [show Builtin.Dict_items.ownsTuple "dict_valueiterator" = false from by decide, Bool.false_eq_true, if_false]
  refine wpAny_newObj_type (wpAny_pure ⟨_, rfl, "dict_valueiterator", _, ⟨_, Heap.get?_push_size _ rfl, rfl⟩, F.slot_dict_valueiterator_next.lookup, ?_⟩)
  simpa [rawInt] using hQ
theorem val_next {Q : Option Value → Shared → Prop} (hit : s.heap.RawIt "dict_valueiterator" it d i es.size ep) (x : s.heap.RawD d es ep) (hi : i < es.size)
    (hQ : ∀ h', h'.RawIt "dict_valueiterator" it d (i + 1) es.size ep → Heap.SameBut it s.heap h' → Q (some es[i].val) { s with heap := h' }) : wpAny (model prog w) A (pyNext (.ref it)) Q E s := by
  obtain ⟨o, ho, hc, hd⟩ := id hit
  obtain ⟨od, hod, _, hdd⟩ := id x
  have hT := hit.ty
  have mv := Heap.RawIt.moved ho hc hd
  unfold pyNext
  refine wpAny_bind (wpAny_attempt (wpAny_callSpecial?_slot (name := Str.ofString "__next__") hT F.slot_dict_valueiterator_next (wpAny_call_entry F.slot_dict_valueiterator_next hT F.entry_dict_valueiterator_next ?_ (F.args_dict_valueiterator_next_1 _))))
  refine wpAny_bind (wpAny_pure (wpAny_bind (wpAny_bind (wpAny_bind (wpAny_typeNameOfWhole_valiter hT (wpAny_pure (wpAny_bind (wpAny_fieldsOf ho hd ?_))))))))
  rw [show Builtin.Dict_items.ownsTuple "dict_valueiterator" = false from by decide]
  show wpAny _ _ (if (Value.ref d == Value.none) = true then _ else _) _ _ s
  rw [if_neg (by simp)]
  refine wpAny_bind (wpAny_pure (wpAny_bind (wpAny_dictEntries hod hdd ?_)))
  rw [if_neg (by simp)]
  refine wpAny_bind (wpAny_pure (wpAny_bind (wpAny_dictEpoch hod hdd ?_)))
  rw [if_neg (by simp)]
  refine wpAny_pure ?_
  simp only [show ¬ ((i : Int) < 0) from by omega, if_false, Int.toNat_natCast, Array.getElem?_eq_getElem hi]
  refine wpAny_bind (wpAny_bind (wpAny_typeNameOfWhole_valiter hT (wpAny_pure (wpAny_bind (wpAny_isOneOf_valiter hT ?_)))))
  show wpAny _ _ (setField (.ref it) 1 (rawInt ((i : Int) + 1)) >>= _) _ _ s
  refine wpAny_bind (wpAny_setField ho hd (by simp) (wpAny_bind (wpAny_holding (wpAny_bind (wpAny_isOneOf_valiter (Heap.RawIt.ty (s := { s with heap := _ }) mv) ?_)))))
  refine wpAny_bind (wpAny_isOneOf_valiter (Heap.RawIt.ty (s := { s with heap := _ }) mv) ?_)
  exact wpAny_pure (wpAny_pure ⟨_, rfl, wpAny_pure (hQ _ mv (Heap.SameBut.update ..))⟩)
theorem val_end {Q : Option Value → Shared → Prop} (hh : A.handled = none) (hit : s.heap.RawIt "dict_valueiterator" it d i es.size ep) (x : s.heap.RawD d es ep) (hi : es.size ≤ i)
    (hQ : ∀ h', Heap.ExtBut it s.heap h' → Q none { s with heap := h' }) : wpAny (model prog w) A (pyNext (.ref it)) Q E s := by
  obtain ⟨o, ho, hc, hd⟩ := id hit
  obtain ⟨od, hod, _, hdd⟩ := id x
  have hT := hit.ty
  unfold pyNext
  refine wpAny_bind (wpAny_attempt (wpAny_callSpecial?_slot (name := Str.ofString "__next__") hT F.slot_dict_valueiterator_next (wpAny_call_entry F.slot_dict_valueiterator_next hT F.entry_dict_valueiterator_next ?_ (F.args_dict_valueiterator_next_1 _))))
  refine wpAny_bind (wpAny_pure (wpAny_bind (wpAny_bind (wpAny_bind (wpAny_typeNameOfWhole_valiter hT (wpAny_pure (wpAny_bind (wpAny_fieldsOf ho hd ?_))))))))
  rw [show Builtin.Dict_items.ownsTuple "dict_valueiterator" = false from by decide]
  show wpAny _ _ (if (Value.ref d == Value.none) = true then _ else _) _ _ s
  rw [if_neg (by simp)]
  refine wpAny_bind (wpAny_pure (wpAny_bind (wpAny_dictEntries hod hdd ?_)))
  rw [if_neg (by simp)]
  refine wpAny_bind (wpAny_pure (wpAny_bind (wpAny_dictEpoch hod hdd ?_)))
  rw [if_neg (by simp)]
  refine wpAny_pure ?_
  simp only [show ¬ ((i : Int) < 0) from by omega, if_false, Int.toNat_natCast, Array.getElem?_eq_none hi]
  refine wpAny_bind (wpAny_bind (wpAny_typeNameOfWhole_valiter hT (wpAny_pure ?_)))
  show wpAny _ _ (setField (.ref it) 0 .none >>= _) _ _ s
  exact wpAny_bind (wpAny_setField ho hd (by simp) (stop_raised hh (Heap.SameBut.update ..).extBut hQ))
theorem raw_items {Q : Value → Shared → Prop} (hd : (d == sysModules) = false) (x : s.heap.RawD d es ep) (hQ : Q (.ref s.heap.objs.size) { s with heap := s.heap.push { cls := .type "dict_items", data := .fields #[.ref d] } }) :
    wpAny (model prog w) A (call (.builtin "dict.items") [.ref d]) Q E s := by
  have hT := x.ty
  refine wpAny_call_entry F.slot_dict_items hT F.entry_dict_items ?_ (F.args_dict_items_1 _)
  unfold Builtin.«dict.items»
  refine wpAny_bind ?_
  unfold Builtin.Dict.noArgs
  refine wpAny_bind (wpAny_notOrdered_dict hT (wpAny_pure ?_))
  show wpAny _ _ (Builtin.Dict.showsAll d >>= _) _ _ s
  unfold Builtin.Dict.showsAll
  rw [if_neg (by rw [hd]; decide)]
  exact wpAny_bind (wpAny_pure (wpAny_bind (wpAny_newObj_type (wpAny_pure ⟨_, rfl, hQ⟩))))
theorem raw_iterI {Q : Value → Shared → Prop} (hv : s.heap.IsItemsView v d) (x : s.heap.RawD d es ep)
    (hQ : Q (.ref s.heap.objs.size) { s with heap := s.heap.push { cls := .type "dict_itemiterator", data := .fields #[.none, .bool false, .ref d, .int 0 0, .int es.size 0, .int ep 0, .none, .none] } }) : wpAny (model prog w) A (pyIter (.ref v)) Q E s := by
  obtain ⟨ov, hov, _, hdv⟩ := id hv
  obtain ⟨o, ho, _, hdat⟩ := id x
  refine wpAny_pyIter_slot hv.typeIs F.slot_dict_items_iter (wpAny_call_entry F.slot_dict_items_iter hv.typeIs F.entry_dict_items_iter ?_ (F.args_dict_items_iter_1 _))
  unfold Builtin.«dict_items.__iter__» Builtin.Dict_items.dictOf Builtin.Dict_items.newIterator
  refine wpAny_bind (wpAny_pure (wpAny_bind (wpAny_bind (wpAny_field hov hdv (x := .ref d) rfl (wpAny_pure (wpAny_bind (wpAny_bind (wpAny_dictEntries ho hdat (wpAny_bind (wpAny_dictEpoch ho hdat ?_))))))))))
  simp only [show Builtin.Dict_items.ownsTuple "dict_itemiterator" = true from by decide, if_true]
  refine wpAny_newObj_type (wpAny_pure ⟨_, rfl, "dict_itemiterator", _, ⟨_, Heap.get?_push_size _ rfl, rfl⟩, F.slot_dict_itemiterator_next.lookup, ?_⟩) (by simp [sizeOk, Builtin.Dict_items.ownedTupleFields, sizeLine_eq])
  simpa [rawInt, Builtin.Dict_items.ownedTupleFields] using hQ
theorem item_next {ok ov : Value} {Q : Option Value → Shared → Prop} (hit : IsItemIter s.heap it d i es.size ep ok ov) (x : s.heap.RawD d es ep) (hi : i < es.size)
    (hQ : ∀ h', IsItemIterOut h' it d (i + 1) es.size ep es[i].key es[i].val s.heap.objs.size → h'.get? s.heap.objs.size = some { cls := .type "tuple", data := .seq #[es[i].key, es[i].val] } →
      (∀ b o, b ≠ it → s.heap.get? b = some o → h'.get? b = some o) → Q (some (.ref s.heap.objs.size)) { s with heap := h' }) : wpAny (model prog w) A (pyNext (.ref it)) Q E s := by
  obtain ⟨hp, g, dr, tk, os⟩ := s
  obtain ⟨od, hod, _, hdd⟩ := id x
  have hT : Shared.TypeIs ⟨hp, g, dr, tk, os⟩ (.ref it) "dict_itemiterator" := ⟨_, hit, rfl⟩
  have lt : it < hp.objs.size := Heap.lt_size hit
  unfold pyNext
  refine wpAny_bind (wpAny_attempt (wpAny_callSpecial?_slot (name := Str.ofString "__next__") hT F.slot_dict_itemiterator_next (wpAny_call_entry F.slot_dict_itemiterator_next hT F.entry_dict_itemiterator_next ?_ (F.args_dict_itemiterator_next_1 _))))
  refine wpAny_bind (wpAny_pure (wpAny_bind (wpAny_bind (wpAny_bind (wpAny_typeNameOfWhole_itemiter hT (wpAny_pure (wpAny_bind (wpAny_fieldsOf hit rfl ?_))))))))
  simp only [show Builtin.Dict_items.ownsTuple "dict_itemiterator" = true from by decide, if_true]
  show wpAny _ _ (if (Value.ref d == Value.none) = true then _ else _) _ _ _
  rw [if_neg (by simp)]
  refine wpAny_bind (wpAny_pure (wpAny_bind (wpAny_dictEntries hod hdd ?_)))
  rw [if_neg (by simp)]
  refine wpAny_bind (wpAny_pure (wpAny_bind (wpAny_dictEpoch hod hdd ?_)))
  rw [if_neg (by simp)]
  refine wpAny_pure ?_
  simp only [show ¬ ((i : Int) < 0) from by omega, if_false, Int.toNat_natCast, Array.getElem?_eq_getElem hi]
  refine wpAny_bind (wpAny_bind (wpAny_typeNameOfWhole_itemiter hT (wpAny_pure (wpAny_bind (wpAny_isOneOf_itemiter hT ?_)))))
  show wpAny _ _ (setField (.ref it) 3 (rawInt ((i : Int) + 1)) >>= _) _ _ ⟨hp, g, dr, tk, os⟩
  refine wpAny_bind (wpAny_setField_rec hit (by simp) fun h1 e1 s1 => ?_)
  replace s1 : Heap.SameBut it hp h1 := s1
  replace e1 : IsItemIter h1 it d (i + 1) es.size ep ok ov := by
    unfold IsItemIter
    rw [show ((i + 1 : Nat) : Int) = (i : Int) + 1 by omega]
    simpa [rawInt] using e1
  have hT1 : Shared.TypeIs ⟨h1, g, dr, tk, os⟩ (.ref it) "dict_itemiterator" := ⟨_, e1, rfl⟩
  refine wpAny_bind (wpAny_holding (wpAny_bind (wpAny_isOneOf_itemiter hT1 (wpAny_bind (wpAny_isOneOf_itemiter hT1 ?_)))))
  show wpAny _ _ (Builtin.Dict_items.pairFromOwner (.ref it) 6 es[i].key es[i].val) _ _ ⟨h1, g, dr, tk, os⟩
  unfold Builtin.Dict_items.pairFromOwner
  refine wpAny_bind (wpAny_newTuple ?_)
  have z1 : h1.objs.size = hp.objs.size := s1.1
  have e2 : IsItemIter (h1.push { cls := .type "tuple", data := .seq #[es[i].key, es[i].val] }) it d (i + 1) es.size ep ok ov := Heap.get?_push_of_some _ e1
  have t2 : (h1.push { cls := .type "tuple", data := .seq #[es[i].key, es[i].val] }).get? hp.objs.size = some { cls := .type "tuple", data := .seq #[es[i].key, es[i].val] } := by rw [← z1]; exact Heap.get?_push_size _ rfl
  have k2 : ∀ b o, b ≠ it → hp.get? b = some o → (h1.push { cls := .type "tuple", data := .seq #[es[i].key, es[i].val] }).get? b = some o := fun b o hb e => Heap.get?_push_of_some _ (s1.extBut b o hb e)
  generalize h1.push { cls := .type "tuple", data := .seq #[es[i].key, es[i].val] } = h2 at e2 t2 k2 ⊢
  rw [z1]
  show wpAny _ _ (Builtin.Dict_items.ownedTupleIsFree (.ref it) >>= _) _ _ ⟨h2, g, dr, tk, os⟩
  unfold Builtin.Dict_items.ownedTupleIsFree
  refine wpAny_bind (wpAny_bind (wpAny_field e2 rfl (x := .none) rfl (wpAny_pure ?_)))
  simp only [if_true]
  refine wpAny_bind (wpAny_field e2 rfl (x := ok) rfl (wpAny_bind (wpAny_field e2 rfl (x := ov) rfl ?_)))
  refine wpAny_bind (wpAny_setField_rec e2 (by simp) fun h3 e3 s3 => wpAny_bind (wpAny_setField_rec e3 (by simp) fun h4 e4 s4 => wpAny_bind (wpAny_setField_rec e4 (by simp) fun h5 e5 s5 => wpAny_bind (wpAny_setField_rec e5 (by simp) fun h6 e6 s6 => ?_))))
  have kk : ∀ b o, b ≠ it → h2.get? b = some o → h6.get? b = some o := fun b o hb e => Heap.SameBut.extBut s6 b o hb (Heap.SameBut.extBut s5 b o hb (Heap.SameBut.extBut s4 b o hb (Heap.SameBut.extBut s3 b o hb e)))
  exact wpAny_bind (wpAny_letGo (wpAny_pure (wpAny_pure ⟨_, rfl, wpAny_pure (hQ h6 e6 (kk _ _ (Nat.ne_of_gt lt) t2) fun b o hb e => kk b o hb (k2 b o hb e))⟩)))
theorem item_end {ok ov : Value} {Q : Option Value → Shared → Prop} (hh : A.handled = none) (hit : IsItemIter s.heap it d i es.size ep ok ov) (x : s.heap.RawD d es ep) (hi : es.size ≤ i)
    (hQ : ∀ h', Heap.ExtBut it s.heap h' → Q none { s with heap := h' }) : wpAny (model prog w) A (pyNext (.ref it)) Q E s := by
  obtain ⟨od, hod, _, hdd⟩ := id x
  have hT : s.TypeIs (.ref it) "dict_itemiterator" := ⟨_, hit, rfl⟩
  unfold pyNext
  refine wpAny_bind (wpAny_attempt (wpAny_callSpecial?_slot (name := Str.ofString "__next__") hT F.slot_dict_itemiterator_next (wpAny_call_entry F.slot_dict_itemiterator_next hT F.entry_dict_itemiterator_next ?_ (F.args_dict_itemiterator_next_1 _))))
  refine wpAny_bind (wpAny_pure (wpAny_bind (wpAny_bind (wpAny_bind (wpAny_typeNameOfWhole_itemiter hT (wpAny_pure (wpAny_bind (wpAny_fieldsOf hit rfl ?_))))))))
  simp only [show Builtin.Dict_items.ownsTuple "dict_itemiterator" = true from by decide, if_true]
  show wpAny _ _ (if (Value.ref d == Value.none) = true then _ else _) _ _ _
  rw [if_neg (by simp)]
  refine wpAny_bind (wpAny_pure (wpAny_bind (wpAny_dictEntries hod hdd ?_)))
  rw [if_neg (by simp)]
  refine wpAny_bind (wpAny_pure (wpAny_bind (wpAny_dictEpoch hod hdd ?_)))
  rw [if_neg (by simp)]
  refine wpAny_pure ?_
  simp only [show ¬ ((i : Int) < 0) from by omega, if_false, Int.toNat_natCast, Array.getElem?_eq_none hi]
  refine wpAny_bind (wpAny_bind (wpAny_typeNameOfWhole_itemiter hT (wpAny_pure ?_)))
  show wpAny _ _ (setField (.ref it) 2 .none >>= _) _ _ s
  exact wpAny_bind (wpAny_setField hit rfl (by simp) (stop_raised hh (Heap.SameBut.update ..).extBut hQ))
end
end PySem
set_option Elab.async false
set_option linter.all false
set_option maxRecDepth 100000
set_option maxHeartbeats 4000000
namespace PySem
open Sem (wp)
section
variable {prog : Program} {w : World} {A : Around} {E : Value → Shared → Prop} {s : Shared} {d it v : Addr} {es : Array DictEntry} {i ep : Nat}
theorem walk_keys (hh : A.handled = none) (I d : Addr) (hne : d ≠ I) (es : Array DictEntry) (ep : Nat) :
    Walks prog w A I [I, d] [I] es.size (fun i v => ∃ hi : i < es.size, v = es[i].key) (fun i h => h.RawIt "dict_keyiterator" I d i es.size ep ∧ h.RawD d es ep) where
  sub := fun b hb => by simp at hb; simp [hb]
  frame := fun _ _ _ st hk => ⟨st.1.at fun o e => hk I (by simp) o e, st.2.at fun o e => hk d (by simp) o e⟩
  item := fun i s Q E hi st hQ => key_next st.1 st.2 hi fun h' hit' hs' => hQ _ h' s.toks ⟨hi, rfl⟩ ⟨hit', st.2.at fun o e => hs'.extBut d o hne e⟩ fun b o hb e => hs'.extBut b o (fun z => hb (by simp [z])) e
  done := fun s Q E st hQ => key_end hh st.1 st.2 (Nat.le_refl _) fun h' he' => hQ h' s.toks fun b o hb e => he' b o (fun z => hb (by simp [z])) e
  self := fun _ _ _ _ st hQ => wpAny_pyIter_keyiter (show Heap.IsKeyIter _ _ _ _ _ _ from st.1) hQ
theorem kdl_raw (lo : (d == sysModules) = false) : PySem.W.KdlSrc prog w "dict" d d es.size (fun i v => ∃ hi : i < es.size, v = es[i].key) (fun h => h.RawD d es ep) where
  type := fun _ x => x.ty
  there := fun _ x => ⟨x.lt, x.lt⟩
  keep := fun _ _ x hk => x.at fun o e => hk d (.inl rfl) o e
  notList := by decide
  notTuple := by decide
  hint := fun _ _ _ _ x hq => PySem.W.kdl_hint_dict x.ty hq
  iter := fun _ s hh x => ⟨_, _, (fun _ _ hq => raw_iter lo x hq), walk_keys hh _ d (Nat.ne_of_lt x.lt) es ep, ⟨⟨_, Heap.get?_push_size _ rfl, rfl, rfl⟩, x.at fun o e => Heap.get?_push_of_some _ e⟩⟩
theorem raw_len {Q : Value → Shared → Prop} (lo : (d == sysModules) = false) (x : s.heap.RawD d es ep) (hfit : (es.size : Int) < 2 ^ 63) (h : ∀ t tk, Q (.int es.size t) { s with toks := tk }) : wpAny (model prog w) A (call (.builtin "len") [.ref d]) Q E s := by
  obtain ⟨o, ho, hc, hdat⟩ := id x
  have hT := x.ty
  refine Calls.call_function_entry kind_len plain_len entry_len (args_len1 _) ?_
  unfold Builtin.«len»
  refine wpAny_bind (m := oneArg "len" _) (wpAny_pure (wpAny_bind (m := callSpecial? (.ref d) (Str.ofString "__len__")) (wpAny_callSpecial?_slot (name := Str.ofString "__len__") hT F.slot_dict_len (wpAny_call_entry F.slot_dict_len hT F.entry_dict_len ?_ (F.args_dict_len_1 _)))))
  show wpAny _ _ (dictSize d >>= _) _ _ s
  unfold dictSize
  refine wpAny_bind (wpAny_bind (wpAny_dictEntries ho hdat (wpAny_pure ?_)))
  show wpAny _ _ (Builtin.Dict.pendingCount d >>= _) _ _ s
  refine wpAny_bind (wpAny_pendingCount_other lo (wpAny_ret_mkInt ?_))
  refine wpAny_bind (wpAny_holding (wpAny_pure (wpAny_bind (wpAny_letGo ?_))))
  rw [Nat.add_zero]
  show wpAny _ _ (if ((es.size : Nat) : Int) < 0 then _ else _) _ _ _
  rw [if_neg (by omega)]
  show wpAny _ _ (if ((es.size : Nat) : Int) ≥ 2 ^ 63 then _ else _) _ _ _
  rw [if_neg (by omega)]
  exact wpAny_bind (wpAny_mkInt (wpAny_pure ⟨_, rfl, h _ _⟩))
end
section
variable {K : Type} [DecidableEq K]
theorem erase_mapped {α β : Type} {f : α → β} : ∀ (xs : List α) (j : Nat), (xs.map f).eraseIdx j = (xs.eraseIdx j).map f
  | [], j => by simp
  | x :: xs, 0 => rfl
  | x :: xs, j + 1 => by rw [List.map_cons, List.eraseIdx_cons_succ, List.eraseIdx_cons_succ, List.map_cons, erase_mapped xs j]
theorem erase_is_filter : ∀ {xs : List (K × Addr × Value)} {k : K} {j : Nat} {p : Addr × Value}, (xs.map (·.1)).Nodup → xs[j]? = some (k, p) → xs.eraseIdx j = xs.filter fun x => decide (x.1 ≠ k)
  | [], _, _, _, _, e => by simp at e
  | x :: xs, k, 0, p, hn, e => by
    cases e
    rw [List.map_cons, List.nodup_cons] at hn
    rw [List.eraseIdx_cons_zero, List.filter_cons, if_neg (by simp)]
    refine (List.filter_eq_self.mpr fun y hy => ?_).symm
    simp only [decide_eq_true_eq]
    exact fun z => hn.1 (List.mem_map.mpr ⟨y, hy, z⟩)
  | x :: xs, k, j + 1, p, hn, e => by
    rw [List.map_cons, List.nodup_cons] at hn
    have e' : xs[j]? = some (k, p) := by simpa using e
    have hx : x.1 ≠ k := fun z => hn.1 (List.mem_map.mpr ⟨_, List.mem_of_getElem? e', z.symm⟩)
    rw [List.eraseIdx_cons_succ, List.filter_cons, if_pos (by simpa using hx), erase_is_filter hn.2 e']
end
section
variable {prog : Program} {w : World} {K : Type} [DecidableEq K] {knd : HeapKind prog w K} {A : Around} {E : Value → Shared → Prop} {s : Shared} {d a : Addr} {k : K} {xs : List (K × Addr × Value)} {p : Addr × Value}
theorem taken_out {Q : Option DictEntry → Shared → Prop} (hu : knd.room A) (hkey : knd.is s.heap k a) (hm : s.heap.DictOfH knd d xs) (hp : atKey xs k = some p) (hsz : xs.length ≤ sizeLine)
    (hQ : ∀ h' e, e.val = p.2 → h'.DictOfH knd d (xs.filter fun x => decide (x.1 ≠ k)) → Heap.SameBut d s.heap h' → Q (some e) { s with heap := h', toks := s.toks + knd.draws k }) : wpAny (model prog w) A (Builtin.Dict.takeOut d (.ref a)) Q E s := by
  obtain ⟨o, es, ep, ho, hc, hd, he, his, hn⟩ := hm
  have hes : es.size ≤ sizeLine := by have := size_of_entries he; omega
  unfold Builtin.Dict.takeOut
  refine wpAny_holding (wpAny_bind (knd.pyHash hu hkey (wpAny_bind (wpAny_dictFind_heap (s := { s with toks := s.toks + knd.draws k }) hu hkey ho hd he his hn (fun hno => ?_) fun j q hj => ?_))))
  · rw [atKey_none_of_get hno] at hp; cases hp
  · rw [atKey_of_get hn hj] at hp
    cases hp
    refine wpAny_bind (wpAny_dictEntries (s := { s with toks := s.toks + knd.draws k }) ho hd ?_)
    rw [entry_at he j, hj]
    refine wpAny_bind (wpAny_updateDictKeys (hz := hes) (s := { s with toks := s.toks + knd.draws k }) ho hd (wpAny_pure (hQ _ (entryOfKey knd (k, p)) rfl ⟨_, _, ep + 1, Heap.get?_update_self _ ho (Obj.isFreed_of_dict (Obj.data_mapDictKeys hd _)), hc.mapDictKeys _, Obj.data_mapDictKeys hd _, ?_, ?_, ?_⟩ (Heap.SameBut.update ..))))
    · rw [← erase_is_filter hn hj]
      obtain ⟨l⟩ := es
      have he' : l = xs.map (entryOfKey knd) := he
      subst he'
      simp [erase_mapped]
    · intro x hx
      exact knd.keeps (his x (List.mem_filter.mp hx).1) ho hd (Heap.SameBut.update ..)
    · exact hn.sublist (List.Sublist.map _ List.filter_sublist)
theorem popped {Q : Value → Shared → Prop} (hu : knd.room A.in1) (hkey : knd.is s.heap k a) (hm : s.heap.DictOfH knd d xs) (hp : atKey xs k = some p) (hsz : xs.length ≤ sizeLine)
    (hQ : ∀ h', h'.DictOfH knd d (xs.filter fun x => decide (x.1 ≠ k)) → Heap.SameBut d s.heap h' → Q p.2 { s with heap := h', toks := s.toks + knd.draws k }) : wpAny (model prog w) A (call (.builtin "dict.pop") [.ref d, .ref a]) Q E s := by
  have hT := hm.typeIs
  obtain ⟨o, es, ep, ho, hc, hd, he, his, hn⟩ := id hm
  have hne : es.isEmpty = false := by
    have h1 := size_of_entries he
    cases xs with
    | nil => simp [atKey] at hp
    | cons x r => show decide (es.size = 0) = false; rw [h1]; simp
  refine wpAny_call_entry F.slot_dict_pop hT F.entry_dict_pop ?_ (F.args_dict_pop_2 _ _)
  unfold Builtin.«dict.pop» Builtin.Dict.keyAndDefault
  refine wpAny_bind (wpAny_bind (wpAny_notOrdered_dict hT ?_))
  show wpAny _ _ (pure (d, Value.ref a, none)) _ _ s
  refine wpAny_pure ?_
  simp only [show (keyPart (Value.ref a)).isSome = false from rfl, Bool.false_eq_true, if_false]
  refine wpAny_bind (wpAny_dictEntries ho hd (wpAny_bind (wpAny_pure ?_)))
  simp only [hne, Bool.false_eq_true, if_false]
  refine wpAny_bind (taken_out hu hkey hm hp hsz fun h' e hev hm' hs' => ?_)
  refine wpAny_bind (wpAny_letGo (wpAny_pure ⟨e.val, rfl, ?_⟩))
  rw [hev]
  exact hQ h' hm' hs'
end
namespace F
theorem plain_updLoop : plainId "dict.update.loop" = true := by decide +kernel
theorem entry_updLoop : entryFor table "dict.update.loop" = some Builtin.«dict.update.loop» := entryFor_of_fast (by kernel_rfl)
theorem lk_list_keys : typeLookup (.type "list") "keys" = pure none := by rw [typeLookup_type, builtinLookup_eq_fast]; kernel_rfl
end F
section
variable {prog : Program} {w : World} {K : Type} [DecidableEq K] {kn : KeyKind prog w K} {A : Around} {E : Value → Shared → Prop}
theorem IsTupleKey.at {h h' : Heap} {ks : List K} {a : Addr} (x : IsTupleKey kn h ks a) (e : ∀ o, h.get? a = some o → h'.get? a = some o) : IsTupleKey kn h' ks a := let ⟨o, its, n, ho, r⟩ := x; ⟨o, its, n, e _ ho, r⟩
noncomputable abbrev Tr (K : Type) := List K × Addr × Value
noncomputable def PairsAt (kn : KeyKind prog w K) (h : Heap) (items : Array Value) (ps : List (Tr K)) : Prop :=
  items.size = ps.length ∧ ∀ (j : Nat) (x : Tr K), ps[j]? = some x → ∃ (t : Addr) (o : Obj) (n : Nat), items[j]? = some (.ref t) ∧ h.get? t = some o ∧ o.cls = .type "tuple" ∧ o.data = .seq #[.ref x.2.1, x.2.2] n ∧ IsTupleKey kn h x.1 x.2.1
noncomputable def filled (ps acc : List (Tr K)) : List (Tr K) := ps.foldl (fun acc x => storedH acc x.1 x.2.1 x.2.2) acc
theorem filled_len : ∀ (ps acc : List (Tr K)), (filled ps acc).length ≤ acc.length + ps.length
  | [], acc => by show acc.length ≤ _; omega
  | x :: r, acc => by
    have h1 := filled_len r (storedH acc x.1 x.2.1 x.2.2)
    have h2 : (storedH acc x.1 x.2.1 x.2.2).length ≤ acc.length + 1 := by unfold storedH; split <;> simp
    show (filled r (storedH acc x.1 x.2.1 x.2.2)).length ≤ _
    rw [List.length_cons]; omega
theorem filled_snoc {ps acc : List (Tr K)} {x : Tr K} : filled (ps ++ [x]) acc = storedH (filled ps acc) x.1 x.2.1 x.2.2 := by unfold filled; rw [List.foldl_append]; rfl
theorem filled_mem : ∀ (ps acc : List (Tr K)) (x : Tr K), x ∈ filled ps acc → ∃ y, (y ∈ ps ∨ y ∈ acc) ∧ x.1 = y.1 ∧ x.2.1 = y.2.1
  | [], acc, x, h => ⟨x, .inr h, rfl, rfl⟩
  | p :: r, acc, x, h => by
    obtain ⟨y, hy, e1, e2⟩ := filled_mem r (storedH acc p.1 p.2.1 p.2.2) x h
    rcases hy with hy | hy
    · exact ⟨y, .inl (by simp [hy]), e1, e2⟩
    · rcases PyProof.Rows.mem_storedH hy with ⟨z, hz, f1, f2⟩ | ⟨f1, f2⟩
      · exact ⟨z, .inr hz, e1.trans f1, e2.trans f2⟩
      · exact ⟨p, .inl (by simp), e1.trans f1, e2.trans f2⟩
noncomputable def DR (kn : KeyKind prog w K) (h : Heap) (d : Addr) (xs : List (Tr K)) : Prop := ∃ o es ep, h.get? d = some o ∧ o.ExactDict ∧ o.data = .dict es ep ∧ es.toList = xs.map (entryOfKey (tupleKind kn)) ∧ (xs.map (·.1)).Nodup
theorem DR.at {h h' : Heap} {d : Addr} {xs : List (Tr K)} (x : DR kn h d xs) (e : ∀ o, h.get? d = some o → h'.get? d = some o) : DR kn h' d xs := let ⟨o, es, ep, ho, r⟩ := x; ⟨o, es, ep, e _ ho, r⟩
theorem DR.of {h : Heap} {d : Addr} {xs : List (Tr K)} (x : DR kn h d xs) (k : ∀ y ∈ xs, IsTupleKey kn h y.1 y.2.1) : h.DictOfH (tupleKind kn) d xs := let ⟨o, es, ep, h1, h2, h3, h4, h5⟩ := x; ⟨o, es, ep, h1, h2, h3, h4, k, h5⟩
theorem DR.out {h : Heap} {d : Addr} {xs : List (Tr K)} (x : h.DictOfH (tupleKind kn) d xs) : DR kn h d xs := let ⟨o, es, ep, h1, h2, h3, h4, _, h5⟩ := x; ⟨o, es, ep, h1, h2, h3, h4, h5⟩
theorem pairs_loop {R : Result → Shared → Prop} (hu : A.units + 1 < cLine) (hh : A.handled = none) {h0 : Heap} {d it l : Addr} (hd0 : h0.get? d = none) (hi0 : h0.get? it = none) (hdi : d ≠ it) {items : Array Value} {ps : List (Tr K)} (hsz : items.size ≤ sizeLine)
    (hl : h0.IsList l items) (hp : PairsAt kn h0 items ps) : ∀ (k i : Nat) (s : Shared), items.size - i = k → i ≤ items.size → s.heap.IsListIter it l i → (∀ b o, h0.get? b = some o → s.heap.get? b = some o) → DR kn s.heap d (filled (ps.take i) []) →
    (∀ h' tk, DR kn h' d (filled ps []) → (∀ b o, h0.get? b = some o → h'.get? b = some o) → (∀ b o, b ≠ d → b ≠ it → s.heap.get? b = some o → h'.get? b = some o) → R (.ok (.ret .none)) { s with heap := h', toks := tk }) →
    codeAny (model prog w) A (.builtin "dict.update.loop" ⟨[.ref d, .ref it, rawInt i, .none], []⟩) R s := by
  have nd : ∀ {b : Addr} {o : Obj}, h0.get? b = some o → b ≠ d := fun e z => by rw [z, hd0] at e; cases e
  have ni : ∀ {b : Addr} {o : Obj}, h0.get? b = some o → b ≠ it := fun e z => by rw [z, hi0] at e; cases e
  intro k
  induction k with
  | zero =>
    intro i s hk hi hit kp hd hR
    have hin : i = items.size := by omega
    subst hin
    refine codeAny_builtin F.entry_updLoop ?_
    rw [Around.under_plainId F.plain_updLoop _]
    show wpAny _ A.in1 (pyNext (.ref it) >>= _) _ _ s
    refine wpAny_bind (wpAny_pyNext_list_end hh hit (hl.at fun o e => kp _ _ e) (by simp) fun h' eb => ?_)
    show wpAny _ _ (Builtin.Dict.addKeywords d [] >>= _) _ _ _
    refine wpAny_bind (wpAny_pure (wpAny_pure ?_))
    rw [hp.1, List.take_length] at hd
    exact hR h' s.toks (hd.at fun o e => eb d o hdi e) (fun b o e => eb b o (ni e) (kp b o e)) fun b o _ n e => eb b o n e
  | succ k ih =>
    intro i s hk hi hit kp hd hR
    have hlt : i < items.size := by omega
    have hlp : i < ps.length := by rw [← hp.1]; exact hlt
    obtain ⟨t, ot, nt, e1, e2, e3, e4, e5⟩ := hp.2 i ps[i] (by simp [hlp])
    refine codeAny_builtin F.entry_updLoop ?_
    rw [Around.under_plainId F.plain_updLoop _]
    show wpAny _ A.in1 (pyNext (.ref it) >>= _) _ _ s
    refine wpAny_bind (wpAny_pyNext_list_item hit (hl.at fun o e => kp _ _ e) e1 fun h1 hit1 hs1 => ?_)
    replace hs1 : Heap.SameBut it s.heap h1 := hs1
    have kp1 : ∀ b o, h0.get? b = some o → h1.get? b = some o := fun b o e => hs1.extBut b o (ni e) (kp b o e)
    have t1 : h1.get? t = some ot := kp1 t ot e2
    refine wpAny_bind (wpAny_holding (wpAny_bind (wpAny_tryCatch ?_)))
    unfold Builtin.Dict.pairItems
    refine wpAny_bind (wpAny_typeOf (T := "tuple") ⟨ot, t1, e3⟩ ?_)
    rw [if_pos (by decide)]
    refine wpAny_bind (wpAny_seqItems t1 e4 (wpAny_pure ?_))
    show wpAny _ _ (holding [.ref ps[i].2.1, ps[i].2.2] (dictSet d (.ref ps[i].2.1) ps[i].2.2)) _ _ _
    have hd1 : h1.DictOfH (tupleKind kn) d (filled (ps.take i) []) := (hd.at fun o e => hs1.extBut d o hdi e).of fun y hy => by
      obtain ⟨z, hz, f1, f2⟩ := filled_mem _ _ y hy
      rcases hz with hz | hz
      · obtain ⟨j, hj⟩ := List.mem_iff_getElem?.mp (List.mem_of_mem_take hz)
        obtain ⟨_, _, _, _, _, _, _, g5⟩ := hp.2 j z hj
        rw [f1, f2]
        exact g5.at fun o e => kp1 _ o e
      · exact nomatch hz
    have fl := filled_len (ps.take i) ([] : List (Tr K))
    have hfl : (filled (ps.take i) []).length ≤ sizeLine := by
      rw [List.length_take] at fl; simp at fl; omega
    refine wpAny_holding (wpAny_dictSet_heap (knd := tupleKind kn) (s := { s with heap := h1 }) (show A.in1.units < cLine from hu) (e5.at fun o e => kp1 _ o e) hd1 (fun h2 hd2 hs2 => ?_) hfl)
    replace hs2 : Heap.SameBut d h1 h2 := hs2
    refine wpAny_pure ⟨plainId_quiet F.plain_updLoop _, ?_⟩
    have c1 : ((i + 1 : Nat) : Int) = (i : Int) + 1 := by omega
    have ht : ps.take (i + 1) = ps.take i ++ [ps[i]] := by rw [List.take_succ, List.getElem?_eq_getElem hlp]; rfl
    rw [← filled_snoc, ← ht] at hd2
    have := ih (i + 1) { s with heap := h2, toks := s.toks + (tupleKind kn).draws ps[i].1 } (by omega) (by omega) (hit1.at fun o q => (hs2.2 it (Ne.symm hdi)).trans q) (fun b o e => (hs2.2 b (nd e)).trans (kp1 b o e)) (DR.out hd2)
      (fun h' tk a b c => hR h' tk a b fun x o n1 n2 q => c x o n1 n2 ((hs2.2 x n1).trans (hs1.extBut x o n2 q)))
    rw [c1] at this
    exact this
theorem keys_missed {s : Shared} {a : Addr} {xs : Array Value} {k : Nat} {Q : Option Value → Shared → Prop} (hx : s.heap.get? a = some { cls := .type "list", data := .seq xs k }) (hA : A.handled = none)
    (h : ∀ h' tk, (∀ b o, s.heap.get? b = some o → h'.get? b = some o) → Q none { s with heap := h', toks := tk }) : wpAny (model prog w) A (getAttr? (.ref a) "keys") Q E s := by
  obtain ⟨hp, g, d, tk, os⟩ := s
  have hT : ∀ tk', (⟨hp, g, d, tk', os⟩ : Shared).TypeIs (.ref a) "list" := fun _ => ⟨_, hx, rfl⟩
  have f1 := sub_AttributeError
  have f3 := F.slot_list_getattribute.lookup
  have f4 := F.slot_list_getattribute.bind (.ref a)
  have f5 := am_list_getattr_none
  unfold getAttr? getAttrBy? getAttrBy
  repeat (any_goals (first | assumption | exact hT _ | ((with_reducible show wpAny _ _ (call (Value.builtin "list.__getattribute__") _ _) _ _ _); refine call_meets F.slot_list_getattribute (hT _) am_entry_list_getattribute (F.args_list_getattribute_2 _ _) (meets_getattribute_miss_list a xs k #[] "keys" _ F.lk_list_keys (by decide +kernel) (by size_fits)) ⟨hx, hA, fun h' tk' e hx' => ?_⟩) | wp_step))
  obtain ⟨t', u', he⟩ := hx'.there
  show wpAny _ _ (getattributeRaised _ _ _ _ _ _ _) _ _ _
  unfold getattributeRaised
  repeat (any_goals (first | assumption | wp_step))
  exact h _ _ hx'.keeps
theorem dict_of_pairs {s : Shared} {l : Addr} {items : Array Value} {c : Nat} {ps : List (Tr K)} {Q : Value → Shared → Prop} (hu : A.units + 3 < cLine) (hh : A.handled = none) (hl : s.heap.get? l = some { cls := .type "list", data := .seq items c }) (hp : PairsAt kn s.heap items ps) (hsz : items.size ≤ sizeLine)
    (hQ : ∀ h' tk, DR kn h' s.heap.objs.size (filled ps []) → (∀ b o, s.heap.get? b = some o → h'.get? b = some o) → Q (.ref s.heap.objs.size) { s with heap := h', toks := tk }) : wpAny (model prog w) A (call (.type "dict") [.ref l]) Q E s := by
  refine callType_codes (Q₁ := fun obj s₁ => obj = .ref s.heap.objs.size ∧ s₁ = { s with heap := s.heap.push { cls := .type "dict", data := .dict #[] } }) F.kt_called_dict (F.kt_typeCall_dict_1 _) F.entry_dict_init (kt_code_dict_new _ ⟨rfl, rfl⟩) ?_
  rintro obj s₁ ⟨rfl, rfl⟩
  have g0 : (s.heap.push { cls := .type "dict", data := .dict #[] }).get? s.heap.objs.size = some { cls := .type "dict", data := .dict #[] } := Heap.get?_push_size _ rfl
  have hT : Shared.TypeIs { s with heap := s.heap.push { cls := .type "dict", data := .dict #[] } } (.ref s.heap.objs.size) "dict" := ⟨_, g0, rfl⟩
  refine ⟨hT, F.args_dict_init_2 _ _, ?_⟩
  unfold Builtin.«dict.__init__» Builtin.Dict.selfAndRest
  refine wpAny_bind (wpAny_bind (wpAny_notOrdered_dict hT ?_))
  show wpAny _ _ (pure (s.heap.objs.size, [Value.ref l])) _ _ _
  refine wpAny_pure ?_
  show wpAny _ _ (Builtin.Dict.updateFrom "dict.__init__" s.heap.objs.size (.ref l) [] .none) _ _ _
  unfold Builtin.Dict.updateFrom
  have hl' := Heap.get?_push_of_some { cls := .type "dict", data := .dict #[] } hl
  refine wpAny_bind (wpAny_typeOf (T := "list") ⟨_, hl', rfl⟩ ?_)
  rw [if_pos (by decide)]
  refine wpAny_bind (keys_missed hl' hh fun h1 tk1 k1 => ?_)
  simp only [Option.isNone_none, if_true]
  refine wpAny_bind (wpAny_rule ?_)
  have hl1 : h1.IsList l items := ⟨_, k1 _ _ hl', rfl, _, rfl⟩
  refine wpAny_bind (wpAny_pyIter_list (s := { s with heap := h1, toks := tk1 }) hl1 ?_)
  refine wpAny_pure ⟨plainId_quiet F.plain_updLoop _, ?_⟩
  have lt1 : s.heap.objs.size < h1.objs.size := Heap.lt_size (k1 _ _ g0)
  have no : ∀ {a : Addr}, s.heap.objs.size ≤ a → s.heap.get? a = none := fun h => Heap.get?_none_of_le h
  refine pairs_loop (A := A.in1) (kn := kn) (h0 := s.heap) (by show A.units + 1 + 1 < cLine; omega) hh (no (Nat.le_refl _)) (no (Nat.le_of_lt lt1)) (Nat.ne_of_lt lt1) hsz ⟨_, hl, rfl, _, rfl⟩ hp items.size 0 _ (by omega) (by omega) ⟨_, Heap.get?_push_size _ rfl, rfl, rfl⟩
    (fun b o e => Heap.get?_push_of_some _ (k1 b o (Heap.get?_push_of_some _ e))) ⟨_, #[], 0, Heap.get?_push_of_some _ (k1 _ _ g0), ⟨rfl, rfl, rfl⟩, rfl, rfl, List.nodup_nil⟩ fun h' tk a b c => ⟨rfl, hQ h' tk a b⟩
end
end PySem
set_option Elab.async false
set_option linter.all false
set_option maxRecDepth 100000
set_option maxHeartbeats 4000000
namespace PySem
open Sem (wp)
noncomputable def num1 (b : Bool) : Int := if b then 1 else 0
section
variable {prog : Program} {w : World} {A : Around} {E : Value → Shared → Prop} {s : Shared}
theorem hash_truth {b : Bool} {Q : Int → Shared → Prop} (h : Q (hashInt (num1 b)) { s with toks := s.toks + 1 }) : wpAny (model prog w) A (pyHash (.bool b)) Q E s := by
  have hT : s.TypeIs (.bool b) "bool" := typeIs_bool s b
  unfold pyHash
  refine wpAny_bind ?_
  rw [cRoomFor, if_neg (by simp [Value.onHeap])]
  refine wpAny_pure (wpAny_bind (wpAny_specialOf hT F.slot_bool_hash.lookup ?_))
  show wpAny _ _ (if (some (Value.builtin "int.__hash__") == some Value.none) = true then _ else _) Q E s
  rw [if_neg (by rw [beq_builtin_none]; decide)]
  refine wpAny_bind (wpAny_specialOf hT F.slot_bool_hash.lookup ?_)
  show wpAny _ _ (callSpecialIfBoundUnlessNone? (.bool b) "__hash__" _ >>= _) Q E s
  refine wpAny_bind (wpAny_callSpecialIfBoundUnlessNone?_slot hT F.slot_bool_hash (wpAny_call_entry F.slot_bool_hash hT F.entry_int_hash ?_ (F.args_int_hash_1 _)))
  cases b with
  | true =>
    show wpAny _ _ (do ret (← mkInt 1)) _ _ s
    refine wpAny_ret_mkInt ?_
    exact wpAny_pure h
  | false =>
    show wpAny _ _ (do ret (← mkInt 0)) _ _ s
    refine wpAny_ret_mkInt ?_
    exact wpAny_pure h
end
end PySem
set_option Elab.async false
set_option linter.all false
set_option maxRecDepth 100000
set_option maxHeartbeats 4000000
namespace L2
open PySem PySem.Spec PyProof.Rows
section
variable {X : Cx} {pins : List (Addr × Obj)} {σ : St} {H : Hp} {s : Shared} {a : Addr} {o : Obj} {vs : List (List Key × V)}
theorem Inv.swap {u u' : HO} (I : Inv X pins σ H s) (e : H a = some u) (nu : ∀ xs, u ≠ .tup xs) (no : ∀ x, u ≠ .own x) (nt : ∀ ps, u ≠ .tbl ps) (nf : ∀ o w, X.H₀ a ≠ some (.frz o w)) (new : ObjOk X.prog X.w (upd H a u') s.heap a u') : Inv X pins σ (upd H a u') s := by
  have na : ∀ {b : Addr}, H b = none → b ≠ a := fun q z => by rw [z, e] at q; cases q
  refine ⟨I.ok, I.os, I.bare, ⟨I.base.keep, I.base.slot, fun b ob q n hx => ?_, I.base.there, fun b xs q => ?_, fun b ob w q => ?_, fun b ps q => ?_⟩, I.loc, I.cell, ?_, fun x c q => ?_, fun p hp => ?_, fun b w q => ?_, I.len⟩
  · have z := I.base.free b ob q n hx; rw [upd_ne (na z)]; exact z
  · have z := I.base.tups b xs q; rw [upd_ne (ne_of z e fun y => nu _ y.symm)]; exact z
  · have z := I.base.frzs b ob w q
    refine (upd_ne fun y => ?_).trans z
    rw [y] at q; exact nf _ _ q
  · obtain ⟨m, z⟩ := I.base.tbls b ps q
    exact ⟨m, by rw [upd_ne (ne_of z e fun y => nt _ y.symm)]; exact z⟩
  · rw [upd_ne (na I.free)]; exact I.free
  · rw [upd_ne (na (I.freeC x c q))]; exact I.freeC x c q
  · obtain ⟨h1, h2, h3⟩ := I.pin p hp
    exact ⟨h1, by rw [upd_ne (na h2)]; exact h2, h3⟩
  · by_cases hb : b = a
    · subst hb; rw [upd_same] at q; cases q; exact new
    · rw [upd_ne hb] at q
      exact (I.hok b w q).stay (fun _ _ _ z => z) (fun c z => by rw [upd_ne (ne_of z e fun y => no _ y.symm)]; exact z) fun c xs z => by rw [upd_ne (ne_of z e fun y => nu _ y.symm)]; exact z
theorem dT_upd {P : Program} {w : World} {h : Heap} {u u' : HO} (e : H a = some u) (nu : ∀ xs, u ≠ .tup xs) (x : ObjOk P w H h a (.dT vs)) : ObjOk P w (upd H a u') h a (.dT vs) := by
  obtain ⟨z, y, xs, r, q⟩ := x
  exact ⟨z, y, xs, KT.keeps r fun b ys eb => by rw [upd_ne (ne_of eb e fun y => nu _ y.symm)]; exact eb, q⟩
theorem Inv.freeze (I : Inv X pins σ H s) (e : H a = some (.dT vs)) (ho : s.heap.get? a = some o) : Inv X pins σ (upd H a (.frz o (.dT vs))) s :=
  I.swap e (fun _ z => nomatch z) (fun _ z => nomatch z) (fun _ z => nomatch z) (fun o' w z => by rw [I.base.frzs _ _ _ z] at e; cases e) ⟨ho, dT_upd e (fun _ z => nomatch z) (I.hok a _ e)⟩
theorem Inv.thaw (I : Inv X pins σ H s) (e : H a = some (.frz o (.dT vs))) (nf : ∀ o w, X.H₀ a ≠ some (.frz o w)) : Inv X pins σ (upd H a (.dT vs)) s :=
  I.swap e (fun _ z => nomatch z) (fun _ z => nomatch z) (fun _ z => nomatch z) nf (dT_upd e (fun _ z => nomatch z) (show ObjOk _ _ H s.heap a (.frz o (.dT vs)) from I.hok a _ e).2)
end
noncomputable def Thw (X : Cx) (Q : Hp → Prop) (H : Hp) : Prop := Q H ∨ ∃ a o vs, H a = some (.frz o (.dT vs)) ∧ (∀ o w, X.H₀ a ≠ some (.frz o w)) ∧ Q (upd H a (.dT vs))
theorem Thw.inv {X : Cx} {pins : List (Addr × Obj)} {σ : St} {H : Hp} {s : Shared} {Q : Hp → Prop} (h : Thw X Q H) (I : Inv X pins σ H s) : ∃ H', Inv X pins σ H' s ∧ Q H' := by
  rcases h with h | ⟨a, o, vs, e, nf, q⟩
  · exact ⟨H, I, h⟩
  · exact ⟨_, I.thaw e nf, q⟩
theorem PE.thaw {X : Cx} {e : Expr} {t : TE} (h : PE X e t) : PE X e fun σ H Q => t σ H fun v H1 => Thw X (Q v) H1 := fun pins s σ H Q I q =>
  thn (h pins s σ H _ I q) fun u s1 ⟨x, H1, I1, r1, q1⟩ => let ⟨H2, I2, q2⟩ := q1.inv I1; ⟨x, H2, I2, r1, q2⟩
theorem PS.thaw {X : Cx} {st : Stmt} {t : TS} (h : PS X st t) : PS X st fun D σ H => t { D with nx := fun σ' H' => Thw X (D.nx σ') H' } σ H := fun pins s σ H D I q =>
  thn (h pins s σ H _ I q) fun f s1 q1 => by
    cases f with
    | next => obtain ⟨σ', H', I1, q2⟩ := q1; obtain ⟨H2, I2, q3⟩ := Thw.inv q2 I1; exact ⟨σ', H2, I2, q3⟩
    | _ => exact q1
end L2
set_option Elab.async false
set_option linter.all false
set_option maxRecDepth 100000
set_option maxHeartbeats 4000000
namespace L2
open PySem PySem.Spec PyProof.Rows
theorem dt_raw {P : Program} {w : World} {H : Hp} {h : Heap} {a : Addr} {vs : List (List Key × V)} (x : ObjOk P w H h a (.dT vs)) : ∃ o es ep xs, h.get? a = some o ∧ o.ExactDict ∧ o.data = .dict es ep ∧ KT H vs xs ∧ es.toList = xs.map (entryOfKey (tupleKind (mixKind P w))) ∧ es.size = vs.length ∧ vs.length ≤ sizeLine ∧ (a == sysModules) = false := by
  obtain ⟨z, y, xs, r, o, es, ep, h1, h2, h3, h4, h5⟩ := x
  exact ⟨o, es, ep, xs, h1, h2, h3, r, h4, by rw [size_of_entries h4, ← Paired.length r], z, y⟩
theorem kt_get {H : Hp} : ∀ {vs : List (List Key × V)} {xs : List (List Key × Addr × Value)} {i : Nat} {p : List Key × V}, KT H vs xs → vs[i]? = some p → ∃ x, xs[i]? = some x ∧ p.1 = x.1 ∧ H x.2.1 = some (.tup (p.1.map kV)) ∧ RelV p.2 x.2.2
  | _, _, _, _, .nil, e => by simp at e
  | _, _, 0, _, .cons h _, e => by cases e; exact ⟨_, rfl, h⟩
  | _, _, i + 1, p, .cons _ t, e => by
    obtain ⟨x, h1, h2⟩ := kt_get (i := i) (p := p) t (by simpa using e)
    exact ⟨x, by simpa using h1, h2⟩
theorem dt_entry {P : Program} {w : World} {H : Hp} {vs : List (List Key × V)} {xs : List (List Key × Addr × Value)} {es : Array DictEntry} {i : Nat} {p : List Key × V} (r : KT H vs xs) (h4 : es.toList = xs.map (entryOfKey (tupleKind (mixKind P w)))) (hp : vs[i]? = some p) :
    ∃ (hi : i < es.size) (b : Addr), es[i].key = .ref b ∧ H b = some (.tup (p.1.map kV)) ∧ RelV p.2 es[i].val := by
  obtain ⟨x, e1, e2, e3, e4⟩ := kt_get r hp
  have e5 := entry_at h4 i
  rw [e1] at e5
  obtain ⟨hi, e6⟩ := Array.getElem?_eq_some_iff.mp e5
  refine ⟨hi, x.2.1, by rw [e6]; rfl, e3, by rw [e6]; exact e4⟩
noncomputable def Itk (o : Obj) (d : Addr) (vs : List (List Key × V)) : It :=
  ⟨fun i H => H d = some (.frz o (.dT vs)) ∧ ∃ p, vs[i]? = some p, fun i H x H' => H' = H ∧ ∃ p b, vs[i]? = some p ∧ x = .ref b ∧ H b = some (.tup (p.1.map kV)), fun i H => H d = some (.frz o (.dT vs)) ∧ vs.length ≤ i⟩
noncomputable def Itv (o : Obj) (d : Addr) (vs : List (List Key × V)) : It :=
  ⟨fun i H => H d = some (.frz o (.dT vs)) ∧ ∃ p, vs[i]? = some p, fun i H x H' => H' = H ∧ ∃ p, vs[i]? = some p ∧ x = p.2, fun i H => H d = some (.frz o (.dT vs)) ∧ vs.length ≤ i⟩
noncomputable def Iti (o : Obj) (d : Addr) (vs : List (List Key × V)) : It :=
  ⟨fun i H => H d = some (.frz o (.dT vs)) ∧ ∃ p, vs[i]? = some p, fun i H x H' => ∃ p b t, vs[i]? = some p ∧ x = .ref t ∧ H t = none ∧ H b = some (.tup (p.1.map kV)) ∧ H' = upd H t (.tup [.ref b, p.2]), fun i H => H d = some (.frz o (.dT vs)) ∧ vs.length ≤ i⟩
noncomputable def tnR (T : String) (o : Obj) (it d : Addr) (i : Nat) (h : Heap) : Prop := ∃ es ep, o.data = .dict es ep ∧ h.RawIt T it d i es.size ep
theorem still {X : Cx} {pins : List (Addr × Obj)} {σ : St} {H : Hp} {s : Shared} {d : Addr} {o : Obj} {vs : List (List Key × V)} {es : Array DictEntry} {ep : Nat} (I : Inv X pins σ H s) (e : H d = some (.frz o (.dT vs))) (ho : o.data = .dict es ep) :
    s.heap.RawD d es ep ∧ ∃ xs, KT H vs xs ∧ es.toList = xs.map (entryOfKey (tupleKind (mixKind X.prog X.w))) ∧ es.size = vs.length := by
  obtain ⟨e1, e2⟩ := (show ObjOk X.prog X.w H s.heap d (.frz o (.dT vs)) from I.hok d _ e)
  obtain ⟨o', es', ep', xs, h1, h2, h3, h4, h5, h6, _⟩ := dt_raw e2
  rw [e1] at h1
  cases h1
  rw [ho] at h3
  cases h3
  exact ⟨⟨o, e1, h2, ho⟩, xs, h4, h5, h6⟩
theorem turn_keys {P : Program} {w : World} {K : PySem.W.Frag} {tg : Expr} (o : Obj) (d it : Addr) (vs : List (List Key × V)) : Turn P w K tg (Itk o d vs) [it] it (tnR "dict_keyiterator" o it d) where
  mem := by simp
  obj := fun i h ⟨es, ep, _, ob, ho, _, hd⟩ b hb => by
    have : b = it := by simpa using hb
    subst this
    exact ⟨ob, ho, fun v z => by rw [hd] at z; cases z⟩
  keep := fun i h h' ⟨es, ep, hd, st⟩ kk => ⟨es, ep, hd, st.at fun o q => kk it (by simp) o q⟩
  item := by
    intro X hP hw hK hc i pins s σ H E I hf st hg
    subst hP hw hK
    obtain ⟨es, ep, hd, hit⟩ := st
    obtain ⟨e, p, hp⟩ := hg
    obtain ⟨raw, xs, r, h4, h5⟩ := still I e hd
    obtain ⟨hi, b, k1, k2, k3⟩ := dt_entry r h4 hp
    obtain ⟨f0, f1, f2, f3, f4, f5⟩ := hf it (by simp)
    refine key_next hit raw hi fun h' hit' hs' => ?_
    replace hs' : Heap.SameBut it s.heap h' := hs'
    obtain ⟨ob, ho, hcl, hda⟩ := id hit'
    refine ⟨_, rfl, go_of (s := { s with heap := h' }) (n := "dict_keyiterator") ho hcl hda (by decide) ⟨.ref b, H, I.turned (t' := s.toks) (fun c q hc e => hs'.extBut c q hc e) f0 f1 f3 f4 f5, k1, ⟨rfl, p, b, hp, rfl, k2⟩, ⟨es, ep, hd, hit'⟩, fun c hc => (hf c hc).1⟩⟩
  done := by
    intro X hP hw hK hc i pins s σ H E I hf st hg
    subst hP hw hK
    obtain ⟨es, ep, hd, hit⟩ := st
    obtain ⟨e, hl⟩ := hg
    obtain ⟨raw, xs, r, h4, h5⟩ := still I e hd
    obtain ⟨f0, f1, f2, f3, f4, f5⟩ := hf it (by simp)
    exact key_end (I.ok.hd hc) hit raw (by omega) fun h' eb => ⟨rfl, I.turned (t' := s.toks) (fun b o hb e => eb b o hb e) f0 f1 f3 f4 f5⟩
  self := fun _ _ _ _ _ ⟨es, ep, _, st⟩ h => wpAny_pyIter_keyiter (show Heap.IsKeyIter _ _ _ _ _ _ from st) h
theorem turn_vals {P : Program} {w : World} {K : PySem.W.Frag} {tg : Expr} (o : Obj) (d it : Addr) (vs : List (List Key × V)) : Turn P w K tg (Itv o d vs) [it] it (tnR "dict_valueiterator" o it d) where
  mem := by simp
  obj := fun i h ⟨es, ep, _, ob, ho, _, hd⟩ b hb => by
    have : b = it := by simpa using hb
    subst this
    exact ⟨ob, ho, fun v z => by rw [hd] at z; cases z⟩
  keep := fun i h h' ⟨es, ep, hd, st⟩ kk => ⟨es, ep, hd, st.at fun o q => kk it (by simp) o q⟩
  item := by
    intro X hP hw hK hc i pins s σ H E I hf st hg
    subst hP hw hK
    obtain ⟨es, ep, hd, hit⟩ := st
    obtain ⟨e, p, hp⟩ := hg
    obtain ⟨raw, xs, r, h4, h5⟩ := still I e hd
    obtain ⟨hi, b, k1, k2, k3⟩ := dt_entry r h4 hp
    obtain ⟨f0, f1, f2, f3, f4, f5⟩ := hf it (by simp)
    refine val_next hit raw hi fun h' hit' hs' => ?_
    replace hs' : Heap.SameBut it s.heap h' := hs'
    obtain ⟨ob, ho, hcl, hda⟩ := id hit'
    refine ⟨_, rfl, go_of (s := { s with heap := h' }) (n := "dict_valueiterator") ho hcl hda (by decide) ⟨p.2, H, I.turned (t' := s.toks) (fun c q hc e => hs'.extBut c q hc e) f0 f1 f3 f4 f5, k3, ⟨rfl, p, hp, rfl⟩, ⟨es, ep, hd, hit'⟩, fun c hc => (hf c hc).1⟩⟩
  done := by
    intro X hP hw hK hc i pins s σ H E I hf st hg
    subst hP hw hK
    obtain ⟨es, ep, hd, hit⟩ := st
    obtain ⟨e, hl⟩ := hg
    obtain ⟨raw, xs, r, h4, h5⟩ := still I e hd
    obtain ⟨f0, f1, f2, f3, f4, f5⟩ := hf it (by simp)
    exact val_end (I.ok.hd hc) hit raw (by omega) fun h' eb => ⟨rfl, I.turned (t' := s.toks) (fun b o hb e => eb b o hb e) f0 f1 f3 f4 f5⟩
  self := fun _ _ _ _ _ ⟨es, ep, _, st⟩ h => wpAny_pyIter_valiter (show Heap.IsValIter _ _ _ _ _ _ from st) h
theorem entry_itemIter : entryFor table "dict_itemiterator.__iter__" = some Builtin.«dict_keyiterator.__iter__» :=
  entryFor_alias (id' := "dict_keyiterator.__iter__") (by kernel_rfl) rfl (by decide +kernel) (by kernel_rfl)
theorem iter_items {prog : Program} {w : World} {A : Around} {E : Value → Shared → Prop} {s : Shared} {it : Addr} {Q : Value → Shared → Prop} (hT : s.TypeIs (.ref it) "dict_itemiterator") (h : Q (.ref it) s) : wpAny (model prog w) A (pyIter (.ref it)) Q E s :=
  wpAny_pyIter_slot hT F.slot_dict_itemiterator_iter (wpAny_call_entry F.slot_dict_itemiterator_iter hT entry_itemIter (show wpAny _ _ (ret (.ref it)) _ _ s from wpAny_pure ⟨_, rfl, "dict_itemiterator", _, hT, F.slot_dict_itemiterator_next.lookup, h⟩) (F.args_dict_itemiterator_iter_1 _))
noncomputable def tnI (o : Obj) (it d : Addr) (i : Nat) (h : Heap) : Prop := ∃ es ep ok ov, o.data = .dict es ep ∧ IsItemIter h it d i es.size ep ok ov
theorem turn_items {P : Program} {w : World} {K : PySem.W.Frag} {elts : List Expr} {k : Nat} {pos : Pos} (o : Obj) (d it : Addr) (vs : List (List Key × V)) : Turn P w K (.Tuple elts k pos) (Iti o d vs) [it] it (tnI o it d) where
  mem := by simp
  obj := fun i h ⟨es, ep, ok, ov, _, st⟩ b hb => by
    have : b = it := by simpa using hb
    subst this
    exact ⟨_, st, fun v z => by have z' : Data.fields _ = Data.cell v := z; cases z'⟩
  keep := fun i h h' ⟨es, ep, ok, ov, hd, st⟩ kk => ⟨es, ep, ok, ov, hd, kk it (by simp) _ st⟩
  item := by
    intro X hP hw hK hc i pins s σ H E I hf st hg
    subst hP hw hK
    obtain ⟨es, ep, ok, ov, hd, hit⟩ := st
    obtain ⟨e, p, hp⟩ := hg
    obtain ⟨raw, xs, r, h4, h5⟩ := still I e hd
    obtain ⟨hi, b, k1, k2, k3⟩ := dt_entry r h4 hp
    have lt := Heap.lt_size hit
    have hn : H s.heap.objs.size = none := I.hok.fresh (Nat.le_refl _)
    refine item_next hit raw hi fun h1 he1 ht1 hk1 => ?_
    refine ⟨_, rfl, wpAny_letOwnedTupleGo_items he1 fun h2 he2 hs2 => ?_⟩
    replace hs2 : Heap.SameBut it h1 h2 := hs2
    have ht2 : h2.get? s.heap.objs.size = some { cls := .type "tuple", data := .seq #[es[i].key, es[i].val] } := (hs2.2 _ (Nat.ne_of_gt lt)).trans ht1
    have I2 : Inv X pins σ (upd H s.heap.objs.size (.tup [.ref b, p.2])) { s with heap := h2, toks := s.toks } :=
      I.turnLaid (fp := [it]) hf (fun c q hc e => (hs2.2 c (fun z => hc (by simp [z]))).trans (hk1 c q (fun z => hc (by simp [z])) e)) (Nat.le_refl _) ⟨by show 2 ≤ sizeLine; decide, [es[i].key, es[i].val], .cons k1 (.cons k3 .nil), ⟨_, ht2, rfl, _, rfl⟩⟩
    refine ⟨.ref s.heap.objs.size, _, I2, rfl, ⟨p, b, _, hp, rfl, hn, k2, rfl⟩, ⟨es, ep, _, _, hd, he2⟩, fun c hc => ?_⟩
    have : c = it := by simpa using hc
    subst this
    rw [upd_ne (Nat.ne_of_lt lt)]
    exact (hf c hc).1
  done := by
    intro X hP hw hK hc i pins s σ H E I hf st hg
    subst hP hw hK
    obtain ⟨es, ep, ok, ov, hd, hit⟩ := st
    obtain ⟨e, hl⟩ := hg
    obtain ⟨raw, xs, r, h4, h5⟩ := still I e hd
    obtain ⟨f0, f1, f2, f3, f4, f5⟩ := hf it (by simp)
    exact item_end (I.ok.hd hc) hit raw (by omega) fun h' eb => ⟨rfl, I.turned (t' := s.toks) (fun b o hb e => eb b o hb e) f0 f1 f3 f4 f5⟩
  self := fun A i s Q E ⟨es, ep, ok, ov, hd, st⟩ h => iter_items ⟨_, st, rfl⟩ h
noncomputable def frzT (X : Cx) (J : Obj → Addr → List (List Key × V) → It) (R : It → Hp → Prop) (x : V) (H1 : Hp) : Prop := ∃ a vs, x = .ref a ∧ H1 a = some (.dT vs) ∧ ∀ o, (∀ o' w, X.H₀ a ≠ some (.frz o' w)) → R (J o a vs) (upd H1 a (.frz o (.dT vs)))
noncomputable def iDk (X : Cx) (tl : TE) : TI := fun σ H R => tl σ H (frzT X Itk R)
noncomputable def iDv (X : Cx) (tl : TE) : TI := fun σ H R => tl σ H (frzT X Itv R)
noncomputable def iDi (X : Cx) (tl : TE) : TI := fun σ H R => tl σ H (frzT X Iti R)
section
variable {X : Cx} {tg l : Expr} {tl : TE} {apos cpos : Pos}
theorem Inv.nofrz {pins : List (Addr × Obj)} {σ : St} {H : Hp} {s : Shared} {a : Addr} {vs : List (List Key × V)} (I : Inv X pins σ H s) (e : H a = some (.dT vs)) : ∀ o' w, X.H₀ a ≠ some (.frz o' w) := fun o' w z => by rw [I.base.frzs _ _ _ z] at e; cases e
theorem pi_dkeys (hl : PE X l tl) : PI X tg l (iDk X tl) := by
  intro pins s σ H R I h
  refine thn (hl pins s σ H _ I h) fun v s1 ⟨x, H1, I1, r1, a, vs, ex, e, q⟩ => ?_
  subst ex
  cases r1
  obtain ⟨o, es, ep, xs, h1, h2, h3, h4, h5, h6, h7, lo⟩ := dt_raw (I1.hok a _ e)
  have nf := I1.nofrz e
  refine raw_iter lo ⟨o, h1, h2, h3⟩ ?_
  have I2 := (I1.freeze e h1).kept (t' := s1.toks) (h' := s1.heap.push { cls := .type "dict_keyiterator", data := .fields #[.ref a, .int 0 0, .int es.size 0, .int ep 0] }) fun b q z => Heap.get?_push_of_some _ z
  refine ⟨s1.heap.objs.size, [s1.heap.objs.size], _, _, _, rfl, I2, turn_keys o a _ vs, ⟨es, ep, h3, _, Heap.get?_push_size _ rfl, rfl, rfl⟩, fun b hb => ?_, q o nf⟩
  have eb : b = s1.heap.objs.size := by simpa using hb
  subst eb
  exact (I1.freeze e h1).fpOk (Nat.le_refl _) ((I1.freeze e h1).hok.fresh (Nat.le_refl _))
theorem dict_at {pins : List (Addr × Obj)} {σ : St} {H : Hp} {s : Shared} {a : Addr} {vs : List (List Key × V)} (I : Inv X pins σ H s) (e : H a = some (.dT vs)) : s.TypeIs (.ref a) "dict" ∧ ∀ b, Value.ref a = .ref b → ∃ ob, s.heap.get? b = some ob ∧ ob.dict = none := by
  obtain ⟨o, es, ep, xs, h1, h2, _⟩ := dt_raw (I.hok a _ e)
  exact ⟨⟨o, h1, h2.1⟩, fun b q => by cases q; exact ⟨o, h1, h2.2.1⟩⟩
theorem pi_dvals (hl : PE X l tl) (hbase : attributeBase l "values" X.env (eval l X.env) = eval l X.env) (hline : (apos.endLine == cpos.line) = true) : PI X tg (.Call (.Attribute l "values" apos) [] [] cpos) (iDv X tl) := by
  intro pins s σ H R I h
  refine wpAny_Call_method0_late hbase hline (thn (hl pins s σ H _ I h) fun v s1 ⟨x, H1, I1, r1, a, vs, ex, e, q⟩ => ?_)
  subst ex
  cases r1
  obtain ⟨o, es, ep, xs, h1, h2, h3, h4, h5, h6, h7, lo⟩ := dt_raw (I1.hok a _ e)
  obtain ⟨t1, t2⟩ := dict_at I1 e
  have nf := I1.nofrz e
  refine ⟨"dict", "dict.values", PySem.F.plainAttrs_dict, PySem.F.slot_dict_values, PySem.F.type_dict_values, t1, t2, Calls.callWith_builtin rfl (PySem.evalArgs_none (raw_values lo ⟨o, h1, h2, h3⟩ ?_))⟩
  refine raw_iterV ⟨_, Heap.get?_push_size _ rfl, rfl, rfl⟩ ⟨o, Heap.get?_push_of_some _ h1, h2, h3⟩ ?_
  have I2 := (I1.freeze e h1).kept (t' := s1.toks) (h' := (s1.heap.push { cls := .type "dict_values", data := .fields #[.ref a] }).push { cls := .type "dict_valueiterator", data := .fields #[.ref a, .int 0 0, .int es.size 0, .int ep 0] }) fun b q z => Heap.get?_push_of_some _ (Heap.get?_push_of_some _ z)
  have sz : s1.heap.objs.size ≤ (s1.heap.push { cls := .type "dict_values", data := .fields #[.ref a] }).objs.size := by rw [Heap.size_push]; omega
  refine ⟨_, [_], _, _, _, rfl, I2, turn_vals o a _ vs, ⟨es, ep, h3, _, Heap.get?_push_size _ rfl, rfl, rfl⟩, fun b hb => ?_, q o nf⟩
  have eb : b = (s1.heap.push { cls := .type "dict_values", data := .fields #[.ref a] }).objs.size := by simpa using hb
  subst eb
  exact (I1.freeze e h1).fpOk sz ((I1.freeze e h1).hok.fresh sz)
theorem pi_ditems {elts : List Expr} {k : Nat} {tp : Pos} (hl : PE X l tl) (hbase : attributeBase l "items" X.env (eval l X.env) = eval l X.env) (hline : (apos.endLine == cpos.line) = true) : PI X (.Tuple elts k tp) (.Call (.Attribute l "items" apos) [] [] cpos) (iDi X tl) := by
  intro pins s σ H R I h
  refine wpAny_Call_method0_late hbase hline (thn (hl pins s σ H _ I h) fun v s1 ⟨x, H1, I1, r1, a, vs, ex, e, q⟩ => ?_)
  subst ex
  cases r1
  obtain ⟨o, es, ep, xs, h1, h2, h3, h4, h5, h6, h7, lo⟩ := dt_raw (I1.hok a _ e)
  obtain ⟨t1, t2⟩ := dict_at I1 e
  have nf := I1.nofrz e
  refine ⟨"dict", "dict.items", PySem.F.plainAttrs_dict, PySem.F.slot_dict_items, PySem.F.type_dict_items, t1, t2, Calls.callWith_builtin rfl (PySem.evalArgs_none (raw_items lo ⟨o, h1, h2, h3⟩ ?_))⟩
  refine raw_iterI ⟨_, Heap.get?_push_size _ rfl, rfl, rfl⟩ ⟨o, Heap.get?_push_of_some _ h1, h2, h3⟩ ?_
  have I2 := (I1.freeze e h1).kept (t' := s1.toks) (h' := (s1.heap.push { cls := .type "dict_items", data := .fields #[.ref a] }).push { cls := .type "dict_itemiterator", data := .fields #[.none, .bool false, .ref a, .int 0 0, .int es.size 0, .int ep 0, .none, .none] }) fun b q z => Heap.get?_push_of_some _ (Heap.get?_push_of_some _ z)
  have sz : s1.heap.objs.size ≤ (s1.heap.push { cls := .type "dict_items", data := .fields #[.ref a] }).objs.size := by rw [Heap.size_push]; omega
  refine ⟨_, [_], _, _, _, rfl, I2, turn_items o a _ vs, ⟨es, ep, _, _, h3, Heap.get?_push_size _ rfl⟩, fun b hb => ?_, q o nf⟩
  have eb : b = (s1.heap.push { cls := .type "dict_items", data := .fields #[.ref a] }).objs.size := by simpa using hb
  subst eb
  exact (I1.freeze e h1).fpOk sz ((I1.freeze e h1).hok.fresh sz)
end
end L2
set_option Elab.async false
set_option linter.all false
set_option maxRecDepth 100000
set_option maxHeartbeats 4000000
namespace L2
open PySem PySem.Spec PyProof.Rows
noncomputable def bixIs : Key → Value → Bool
  | k, .bool b => decide (k = .inl (num1 b))
  | k, v => keyIs k v
theorem bixIs_shape {k : Key} {v : Value} (h : bixIs k v = true) : (∃ i t, k = .inl i ∧ v = .int i t) ∨ (∃ x t, k = .inr x ∧ v = .str x t) ∨ ∃ b, k = .inl (num1 b) ∧ v = .bool b := by
  cases v with
  | bool b => exact .inr (.inr ⟨b, by simpa [bixIs] using h, rfl⟩)
  | _ =>
    rcases keyIs_shape (show keyIs k _ = true from h) with h | h
    · exact .inl h
    · exact .inr (.inl h)
theorem num1_eq (a b : Bool) : decide ((Sum.inl (num1 a) : Key) = Sum.inl (num1 b)) = (a == b) := by cases a <;> cases b <;> decide
noncomputable def bixKind (prog : Program) (w : World) : PySem.KeyKind prog w Key where
  is := bixIs
  hash := keyH w
  inj := fun v a b ha hb => by
    rcases bixIs_shape ha with ⟨i, t, rfl, rfl⟩ | ⟨x, t, rfl, rfl⟩ | ⟨p, rfl, rfl⟩ <;> rcases bixIs_shape hb with ⟨j, u, rfl, e⟩ | ⟨y, u, rfl, e⟩ | ⟨q, rfl, e⟩ <;> first | (cases e; rfl) | cases e
  byValue := fun k v h => by
    rcases bixIs_shape h with ⟨i, t, rfl, rfl⟩ | ⟨x, t, rfl, rfl⟩ | ⟨p, rfl, rfl⟩ <;> rfl
  pyHash := fun hv h => by
    rcases bixIs_shape hv with ⟨i, t, rfl, rfl⟩ | ⟨x, t, rfl, rfl⟩ | ⟨p, rfl, rfl⟩
    · exact wpAny_pyHash_int h
    · exact wpAny_pyHash_str h
    · exact hash_truth h
  eqBool := fun hu hv h => by
    rcases bixIs_shape hu with ⟨i, t, rfl, rfl⟩ | ⟨x, t, rfl, rfl⟩ | ⟨p, rfl, rfl⟩
    · rcases bixIs_shape hv with ⟨j, u, rfl, rfl⟩ | ⟨y, u, rfl, rfl⟩ | ⟨q, rfl, rfl⟩
      · rw [key_ll] at h; exact wpAny_eqBool_int h
      · rw [key_lr] at h; exact SeqAt.EqAt.int_str i t y u _ _ _ _ h
      · rw [key_ll] at h; exact SeqAt.EqAt.int_bool i t q _ _ _ _ h
    · rcases bixIs_shape hv with ⟨j, u, rfl, rfl⟩ | ⟨y, u, rfl, rfl⟩ | ⟨q, rfl, rfl⟩
      · rw [key_rl] at h; exact SeqAt.EqAt.str_int x t j u _ _ _ _ h
      · rw [key_rr] at h; exact wpAny_eqBool_str h
      · rw [key_rl] at h; exact SeqAt.EqAt.str_bool x t q _ _ _ _ h
    · rcases bixIs_shape hv with ⟨j, u, rfl, rfl⟩ | ⟨y, u, rfl, rfl⟩ | ⟨q, rfl, rfl⟩
      · rw [key_ll] at h; exact SeqAt.EqAt.bool_int p j u _ _ _ _ h
      · rw [key_lr] at h; exact SeqAt.EqAt.bool_str p y u _ _ _ _ h
      · rw [num1_eq] at h; exact SeqAt.EqAt.bool_bool p q _ _ _ _ h
  «strs» := fun k x t v h => by
    rcases bixIs_shape h with ⟨i, u, rfl, e⟩ | ⟨y, u, rfl, e⟩ | ⟨p, rfl, e⟩
    · exact nomatch e
    · injection e with e1 _
      subst e1
      cases v <;> first | rfl | (unfold bixIs; exact key_rl _ _)
    · exact nomatch e
theorem bix_of {k : Key} {v : Value} (h : keyIs k v = true) : bixIs k v = true := by
  rcases keyIs_shape h with ⟨i, t, rfl, rfl⟩ | ⟨x, t, rfl, rfl⟩ <;> exact h
theorem bix_items {P : Program} {w : World} {ks : List Key} {us : List Value} (h : ItemsAre (mixKind P w) ks us) : ItemsAre (bixKind P w) ks us := by
  induction h with
  | nil => exact .nil
  | cons h t ih => exact .cons (bix_of h) ih
theorem bix_dict {P : Program} {w : World} {h : Heap} {d : Addr} {xs : List (List Key × Addr × Value)} (x : h.DictOfH (tupleKind (mixKind P w)) d xs) : h.DictOfH (tupleKind (bixKind P w)) d xs :=
  let ⟨o, es, ep, h1, h2, h3, h4, h5, h6⟩ := x
  ⟨o, es, ep, h1, h2, h3, h4, fun y hy => let ⟨o', its, n, g1, g2, g3, g4⟩ := h5 y hy; ⟨o', its, n, g1, g2, g3, bix_items g4⟩, h6⟩
inductive QK : List Key → List V → Prop where
  | nil : QK [] []
  | int {i : Int} {ks : List Key} {vs : List V} (t : QK ks vs) : QK (.inl i :: ks) (.int i :: vs)
  | str {x : Str} {ks : List Key} {vs : List V} (t : QK ks vs) : QK (.inr x :: ks) (.str x :: vs)
  | bl {b : Bool} {ks : List Key} {vs : List V} (t : QK ks vs) : QK (.inl (num1 b) :: ks) (.bl b :: vs)
theorem items_q {P : Program} {w : World} {ks : List Key} {vs : List V} (h : QK ks vs) : ∀ {us : List Value}, Vals vs us → ItemsAre (bixKind P w) ks us := by
  induction h with
  | nil => intro us r; cases r; exact .nil
  | int t ih =>
    intro us r
    cases r with
    | cons h1 t1 => obtain ⟨tk, rfl⟩ := h1; exact .cons (keyIs_int _ tk) (ih t1)
  | str t ih =>
    intro us r
    cases r with
    | cons h1 t1 => obtain ⟨tk, rfl⟩ := h1; exact .cons (keyIs_str _ tk) (ih t1)
  | @bl b _ _ t ih =>
    intro us r
    cases r with
    | cons h1 t1 => cases h1; exact .cons (show bixIs (.inl (num1 b)) (.bool b) = true by unfold bixIs; simp) (ih t1)
section
variable {X : Cx} {pins : List (Addr × Obj)} {σ : St} {H : Hp} {s : Shared} {a b : Addr} {kvs : List (List Key × V)} {k : List Key} {vs : List V} {A : Around} {E : Value → Shared → Prop}
theorem key_q {P : Program} {w : World} {h : Heap} (ok : HOk P w H h) (e : H b = some (.tup vs)) (q : QK k vs) : (tupleKind (bixKind P w)).is h k b := by
  obtain ⟨_, its, r, o, h1, h2, n, h3⟩ := (show ObjOk P w H h b (.tup vs) from ok b _ e)
  exact ⟨o, its.toArray, n, h1, h2, h3, by simpa using items_q q r⟩
theorem d_inQ {Q : Value → Shared → Prop} (hu : A.units + 1 < cLine) (I : Inv X pins σ H s) (e : Rd H a (.dT kvs)) (eb : H b = some (.tup vs)) (qk : QK k vs) (h : ∀ s', Inv X pins σ H s' → Q (.bool (valV kvs k).isSome) s') :
    wpAny (model X.prog X.w) A (compareOp .In (.ref b) (.ref a)) Q E s := by
  obtain ⟨z, hd, xs, rel, dd⟩ := dt_rd I.hok e
  refine wpAny_in_heap (tupleKind_room_in1 hu) (key_q I.hok eb qk) hd (bix_dict dd) ?_
  have q := (rel.val k).isSome_eq
  rw [Option.isSome_map] at q
  rw [← q]
  exact h _ (I.tok _)
theorem d_notInQ {Q : Value → Shared → Prop} (hu : A.units + 1 < cLine) (I : Inv X pins σ H s) (e : Rd H a (.dT kvs)) (eb : H b = some (.tup vs)) (qk : QK k vs) (h : ∀ s', Inv X pins σ H s' → Q (.bool (!(valV kvs k).isSome)) s') :
    wpAny (model X.prog X.w) A (compareOp .NotIn (.ref b) (.ref a)) Q E s := by
  obtain ⟨z, hd, xs, rel, dd⟩ := dt_rd I.hok e
  refine wpAny_notIn_heap (tupleKind_room_in1 hu) (key_q I.hok eb qk) hd (bix_dict dd) ?_
  have q := (rel.val k).isSome_eq
  rw [Option.isSome_map] at q
  rw [← q]
  exact h _ (I.tok _)
theorem kt_drop {kvs : List (List Key × V)} {xs : List (List Key × Addr × Value)} (r : KT H kvs xs) (k : List Key) : KT H (dropK kvs k) (xs.filter fun x => decide (x.1 ≠ k)) := by
  induction r with
  | nil => exact .nil
  | @cons p q ps qs h t ih =>
    unfold dropK at ih ⊢
    rw [List.filter_cons, List.filter_cons]
    by_cases e : p.1 = k
    · rw [if_neg (by simp [e]), if_neg (by simp [← h.1, e])]; exact ih
    · rw [if_pos (by simp [e]), if_pos (by simp [← h.1, e])]; exact .cons h ih
theorem d_popT {v : V} {Q : Value → Shared → Prop} (hu : A.units + 1 < cLine) (I : Inv X pins σ H s) (e : H a = some (.dT kvs)) (eb : H b = some (.tup (k.map kV))) (l : valV kvs k = some v)
    (h : ∀ w' s', Inv X pins σ (upd H a (.dT (dropK kvs k))) s' → RelV v w' → Q w' s') : wpAny (model X.prog X.w) A (call (.builtin "dict.pop") [.ref a, .ref b]) Q E s := by
  obtain ⟨z, hd, xs, rel, dd⟩ := dt_of I.hok e
  have hz : xs.length ≤ sizeLine := by rw [← Paired.length rel]; exact z
  obtain ⟨w', hw, rw'⟩ := RelO.some_of (v := v) (o := (atKey xs k).map (·.2)) (by rw [← l]; exact rel.val k)
  obtain ⟨p, hp, hp2⟩ := Option.map_eq_some_iff.mp hw
  refine popped (tupleKind_room_in1 hu) (key_of I.hok eb) dd hp hz fun h' dd' hs => ?_
  rw [hp2]
  obtain ⟨q, es, ep, hq, h2, h3, h4, _, h5⟩ := dd'
  refine h w' _ (d_write I (by rw [e]; exact True.intro) hs ⟨q, hq⟩ ⟨Nat.le_trans (dropK_le kvs k) z, hd, _, (kt_drop rel k).keeps fun c ys ec => ?_, q, es, ep, hq, h2, h3, h4, h5⟩) rw'
  rw [upd_ne (ne_of ec e (fun z => nomatch z))]
  exact ec
end
noncomputable def tDPopT (td ty : TE) : TE := fun σ H Q => td σ H fun x H1 => ∃ a, x = .ref a ∧ IsD H1 a ∧ ty σ H1 fun y H2 => ∃ b kvs k v, y = .ref b ∧ H2 a = some (.dT kvs) ∧ H2 b = some (.tup (k.map kV)) ∧ valV kvs k = some v ∧ Q v (upd H2 a (.dT (dropK kvs k)))
section
variable {X : Cx} {o e f : Expr} {apos cpos : Pos} {td ty tx : TE}
theorem pe_dpopT (hu : X.A.units + 1 < cLine) (ho : PE X o td) (he : PE X e ty) (m : M1 X o "pop" apos e cpos) : PE X (.Call (.Attribute o "pop" apos) [e] [] cpos) (tDPopT td ty) := by
  intro pins s σ H Q I h
  refine wpAny_Call_method m.base m.few m.line PySem.F.plainAttrs_dict PySem.F.slot_dict_pop PySem.F.type_dict_pop (thn (ho pins s σ H _ I h) fun u s1 ⟨x, H1, I1, rx, a, ex, d, q1⟩ => ?_)
  subst ex
  obtain rfl : u = Value.ref a := rx
  obtain ⟨t1, t2, _⟩ := L2.isD_at I1 d
  refine ⟨t1, t2, ?_⟩
  rw [m.trees]
  refine Calls.callWith_builtin rfl (Calls.evalArgs_plain (Calls.spliced_cons (thn (he pins s1 σ H1 _ I1 q1) fun iv s2 ⟨y, H2, I2, ry, b, kvs, k, v, ey, ea, eb, l, q2⟩ => Calls.spliced_nil ?_)))
  subst ey
  obtain rfl : iv = Value.ref b := ry
  exact d_popT hu I2 ea eb l fun w' s3 I3 rw' => ⟨v, _, I3, rw', q2⟩
theorem call_lenT : CallR X (.builtin "len") (fun xs H Q => ∃ a kvs, xs = [.ref a] ∧ Rd H a (.dT kvs) ∧ Q (.int kvs.length) H) := by
  intro pins s σ H xs us Q I r h
  obtain ⟨a, kvs, rfl, e, q⟩ := h
  obtain ⟨u, rfl, rx⟩ := vals1 r
  cases rx
  obtain ⟨o, es, ep, xs, h1, h2, h3, h4, h5, h6, h7, lo⟩ := dt_raw (rd_of I.hok e)
  have sz : sizeLine = 16777216 := sizeLine_eq
  refine raw_len lo ⟨o, h1, h2, h3⟩ (by omega) fun t tk => ⟨.int kvs.length, H, I.tok _, ⟨t, by rw [h6]⟩, q⟩
noncomputable def KeysAt (H : Hp) : List (List Key × V) → List V → Prop := Paired fun p y => ∃ b, y = .ref b ∧ H b = some (.tup (p.1.map kV))
theorem keys_at {P : Program} {w : World} {H : Hp} {vs : List (List Key × V)} {xs : List (List Key × Addr × Value)} (r : KT H vs xs) : ∃ ys : List V, KeysAt H vs ys ∧ Vals ys ((xs.map (entryOfKey (tupleKind (mixKind P w)))).map (·.key)) := by
  induction r with
  | nil => exact ⟨[], .nil, .nil⟩
  | @cons p q ps qs h t ih =>
    obtain ⟨ys, h1, h2⟩ := ih
    exact ⟨.ref q.2.1 :: ys, .cons ⟨_, rfl, h.2.1⟩ h1, .cons rfl h2⟩
theorem call_listT (hc : X.calm = true) : CallR X (.type "list") (fun xs H Q => ∃ a kvs, xs = [.ref a] ∧ Rd H a (.dT kvs) ∧ ∀ l ys, H l = none → KeysAt H kvs ys → Q (.ref l) (upd H l (.lst ys))) := by
  intro pins s σ H xs us Q I r h
  obtain ⟨a, kvs, rfl, e, q⟩ := h
  obtain ⟨u, rfl, rx⟩ := vals1 r
  cases rx
  obtain ⟨o, es, ep, xs, h1, h2, h3, h4, h5, h6, h7, lo⟩ := dt_raw (rd_of I.hok e)
  obtain ⟨ys, k1, k2⟩ := keys_at (P := X.prog) (w := X.w) h4
  refine PySem.W.kdl_call (kdl_raw lo) (I.ok.hd hc) (⟨o, h1, h2, h3⟩ : s.heap.RawD a es ep) (by omega) fun h' tk acc' c' kp hD hacc => ?_
  refine ⟨.ref s.heap.objs.size, _, I.laid (t' := tk) kp (Nat.le_refl _) (show ObjOk X.prog X.w _ h' _ (.lst ys) from ⟨?_, acc'.toList, c', ?_, by simpa using hD⟩), rfl, q _ ys (I.hok.fresh (Nat.le_refl _)) k1⟩
  · rw [← Paired.length k1]; exact h7
  · have : acc'.toList = (xs.map (entryOfKey (tupleKind (mixKind X.prog X.w)))).map (·.key) := by
      rw [← h5]
      refine List.ext_getElem? fun j => ?_
      rw [List.getElem?_map, Array.getElem?_toList, Array.getElem?_toList]
      by_cases hj : j < es.size
      · have hj' : j < acc'.size := by rw [hacc.1]; exact hj
        obtain ⟨hi, ev⟩ := hacc.2 j acc'[j] (by simp [hj'])
        rw [Array.getElem?_eq_getElem hj, Array.getElem?_eq_getElem hj', ev]
        rfl
      · rw [Array.getElem?_eq_none (xs := acc') (by rw [hacc.1]; omega), Array.getElem?_eq_none (xs := es) (by omega)]
        rfl
    rw [this]
    exact k2
noncomputable def PsAt (H : Hp) : List (List Key × V) → List V → Prop := Paired fun p y => ∃ t b, y = .ref t ∧ H t = some (.tup [.ref b, p.2]) ∧ H b = some (.tup (p.1.map kV))
noncomputable def fillV (ps : List (List Key × V)) : List (List Key × V) := ps.foldl (fun acc p => putK acc p.1 p.2) []
theorem pairs_at {P : Program} {w : World} {H : Hp} {h : Heap} (ok : HOk P w H h) {ps : List (List Key × V)} {ys : List V} (r : PsAt H ps ys) : ∀ {us : List Value}, Vals ys us → ∃ trs : List (Tr Key), PairsAt (mixKind P w) h us.toArray trs ∧ KT H ps trs := by
  induction r with
  | nil => intro us q; cases q; exact ⟨[], ⟨rfl, fun j x e => by simp at e⟩, .nil⟩
  | @cons p y ps ys h1 t ih =>
    intro us q
    cases q with
    | @cons _ u _ us' q1 q2 =>
      obtain ⟨trs, ⟨g1, g2⟩, g3⟩ := ih q2
      obtain ⟨ta, b, rfl, e1, e2⟩ := h1
      obtain rfl : u = Value.ref ta := q1
      obtain ⟨_, its, r, o, k1, k2, n, k3⟩ := (show ObjOk P w H h ta (.tup [.ref b, p.2]) from ok ta _ e1)
      obtain ⟨u1, u2, rfl, r1, r2⟩ := vals2 r
      obtain rfl : u1 = Value.ref b := r1
      refine ⟨(p.1, b, u2) :: trs, ⟨by simpa using g1, fun j x e => ?_⟩, .cons ⟨rfl, e2, r2⟩ g3⟩
      cases j with
      | zero =>
        cases e
        exact ⟨ta, o, n, by simp, k1, k2, k3, key_of ok e2⟩
      | succ j =>
        obtain ⟨t', o', n', m1, m2⟩ := g2 j x (by simpa using e)
        exact ⟨t', o', n', by simpa using m1, m2⟩
theorem kt_fill {H : Hp} {ps : List (List Key × V)} {trs : List (Tr Key)} (r : KT H ps trs) : ∀ {acc : List (List Key × V)} {xs : List (Tr Key)}, KT H acc xs → KT H (ps.foldl (fun acc p => putK acc p.1 p.2) acc) (filled trs xs) := by
  induction r with
  | nil => intro acc xs q; exact q
  | @cons p q ps qs h t ih =>
    intro acc xs z
    show KT H (ps.foldl _ (putK acc p.1 p.2)) (filled qs (storedH xs q.1 q.2.1 q.2.2))
    have := z.put p.1 (b := q.2.1) h.2.1 h.2.2
    rw [h.1] at this ⊢
    exact ih this
theorem fillV_len : ∀ (ps acc : List (List Key × V)), (ps.foldl (fun acc p => putK acc p.1 p.2) acc).length ≤ acc.length + ps.length
  | [], acc => by simp
  | p :: r, acc => by
    have h1 := fillV_len r (putK acc p.1 p.2)
    have h2 := length_putK acc p.1 p.2
    rw [List.foldl_cons, List.length_cons]; omega
theorem call_dictT (hu : X.A.units + 3 < cLine) (hc : X.calm = true) : CallR X (.type "dict") (fun xs H Q => ∃ l ys ps, xs = [.ref l] ∧ H l = some (.lst ys) ∧ PsAt H ps ys ∧ ys.length ≤ sizeLine ∧ ∀ p, H p = none → Q (.ref p) (upd H p (.dT (fillV ps)))) := by
  intro pins s σ H xs us Q I r h
  obtain ⟨l, ys, ps, rfl, e, hp, hz, q⟩ := h
  obtain ⟨u, rfl, rx⟩ := vals1 r
  cases rx
  obtain ⟨z, its, m, rr, hlen, el⟩ := I.lstM e
  obtain ⟨trs, h1, h2⟩ := pairs_at I.hok hp rr
  have lp := Paired.length hp
  have lr := Paired.length rr
  refine dict_of_pairs hu (I.ok.hd hc) el h1 (by rw [List.size_toArray]; omega) fun h' tk dr kp => ?_
  have fr : H s.heap.objs.size = none := I.hok.fresh (Nat.le_refl _)
  obtain ⟨o, es, ep, g1, g2, g3, g4, g5⟩ := dr
  refine ⟨.ref s.heap.objs.size, _, I.laid (t' := tk) kp (Nat.le_refl _) (show ObjOk X.prog X.w _ h' _ (.dT (fillV ps)) from ⟨?_, ?_, filled trs [], (kt_fill h2 .nil).keeps fun c ys ec => ?_, o, es, ep, g1, g2, g3, g4, g5⟩), rfl, q _ fr⟩
  · have := fillV_len ps []
    simp at this
    unfold fillV
    omega
  · have := I.big
    exact beq_eq_false_iff_ne.mpr (Nat.ne_of_gt this)
  · rw [upd_ne (ne_of_none ec fr)]; exact ec
end
end L2
set_option linter.all false
namespace Cb
section
variable {P : Type} [DecidableEq P]
theorem len_sub : ∀ {xs ys : List P}, xs.Nodup → (∀ x ∈ xs, x ∈ ys) → xs.length ≤ ys.length
  | [], _, _, _ => Nat.zero_le _
  | x :: xs, ys, hn, hs => by
    have hx := hs x (by simp)
    rw [List.nodup_cons] at hn
    have : xs.length ≤ (ys.erase x).length := len_sub hn.2 fun z hz => by
      have hzx : z ≠ x := fun e => hn.1 (e ▸ hz)
      exact (List.mem_erase_of_ne hzx).mpr (hs z (by simp [hz]))
    rw [List.length_erase_of_mem hx] at this
    have : 0 < ys.length := List.length_pos_of_mem hx
    simp; omega
theorem pigeon : ∀ {xs : List P} {ys : List (Option P)}, xs.Nodup → ys.length = xs.length → (∀ x ∈ xs, some x ∈ ys) → ys.Nodup ∧ ∀ y ∈ ys, ∃ x ∈ xs, y = some x
  | [], ys, _, hl, _ => by
    have : ys = [] := List.eq_nil_of_length_eq_zero (by simpa using hl)
    subst this; simp
  | x :: xs, ys, hn, hl, hs => by
    have hx := hs x (by simp)
    rw [List.nodup_cons] at hn
    have hl' : (ys.erase (some x)).length = xs.length := by rw [List.length_erase_of_mem hx]; simp at hl; omega
    obtain ⟨h1, h2⟩ := pigeon (ys := ys.erase (some x)) hn.2 hl' fun z hz => by
      have hzx : z ≠ x := fun e => hn.1 (e ▸ hz)
      exact (List.mem_erase_of_ne (by simpa using hzx)).mpr (hs z (by simp [hz]))
    have hp : ys.Perm (some x :: ys.erase (some x)) := List.perm_cons_erase hx
    refine ⟨?_, fun y hy => ?_⟩
    · rw [hp.nodup_iff, List.nodup_cons]
      refine ⟨fun z => ?_, h1⟩
      obtain ⟨w, hw, e⟩ := h2 _ z
      cases e
      exact hn.1 hw
    · rcases List.mem_cons.mp (hp.mem_iff.mp hy) with rfl | hy
      · exact ⟨x, by simp, rfl⟩
      · obtain ⟨w, hw, e⟩ := h2 _ hy
        exact ⟨w, by simp [hw], e⟩
variable (nx : P → Option P)
noncomputable def it : Nat → P → Option P
  | 0, p => some p
  | n + 1, p => (it n p).bind nx
noncomputable def Rc (a b : P) : Prop := ∃ n, it nx n a = some b
noncomputable def Cyc (c : P) : Prop := ∃ n, it nx (n + 1) c = some c
variable {nx}
theorem it_add : ∀ (n m : Nat) {a b : P}, it nx m a = some b → it nx (m + n) a = it nx n b
  | 0, m, a, b, h => h
  | n + 1, m, a, b, h => by
    show (it nx (m + n) a).bind nx = (it nx n b).bind nx
    rw [it_add n m h]
theorem it_mul {c : P} {n : Nat} (h : it nx n c = some c) : ∀ k, it nx (n * k) c = some c
  | 0 => rfl
  | k + 1 => by rw [Nat.mul_succ, it_add n (n * k) (it_mul h k)]; exact h
theorem Rc.refl (a : P) : Rc nx a a := ⟨0, rfl⟩
theorem Rc.trans {a b c : P} (h : Rc nx a b) (k : Rc nx b c) : Rc nx a c := by
  obtain ⟨n, h⟩ := h
  obtain ⟨m, k⟩ := k
  exact ⟨n + m, by rw [it_add m n h]; exact k⟩
theorem Rc.step {a b : P} (h : nx a = some b) : Rc nx a b := ⟨1, h⟩
theorem Rc.symm {a b : P} (ha : Cyc nx a) (h : Rc nx a b) : Rc nx b a := by
  obtain ⟨n, hn⟩ := ha
  obtain ⟨m, hm⟩ := h
  have hk := it_mul hn (m + 1)
  have e : m + ((n + 1) * (m + 1) - m) = (n + 1) * (m + 1) := by
    have : m ≤ (n + 1) * (m + 1) := by
      have : 1 * (m + 1) ≤ (n + 1) * (m + 1) := Nat.mul_le_mul_right _ (by omega)
      omega
    omega
  exact ⟨(n + 1) * (m + 1) - m, by rw [← it_add _ _ hm, e]; exact hk⟩
theorem Cyc.of_rc {a b : P} (ha : Cyc nx a) (h : Rc nx a b) : Cyc nx b := by
  obtain ⟨n, hn⟩ := Rc.symm ha h
  obtain ⟨m, hm⟩ := h
  obtain ⟨k, hk⟩ := ha
  refine ⟨n + k + m, ?_⟩
  have : n + k + m + 1 = n + ((k + 1) + m) := by omega
  rw [this, it_add _ _ hn, it_add _ _ hk]
  exact hm
theorem closed {T : P → Prop} (hc : ∀ a b, T a → nx a = some b → T b) {a b : P} (ha : T a) (h : Rc nx a b) : T b := by
  obtain ⟨n, h⟩ := h
  induction n generalizing b with
  | zero => cases h; exact ha
  | succ n ih =>
    change (it nx n a).bind nx = some b at h
    cases e : it nx n a with
    | none => rw [e] at h; cases h
    | some c => rw [e] at h; exact hc _ _ (ih e) h
theorem Cyc.next {a : P} (h : Cyc nx a) : ∃ b, nx a = some b ∧ Cyc nx b := by
  have h0 := h
  obtain ⟨n, hn⟩ := h
  have : it nx (1 + n) a = some a := by rw [Nat.add_comm]; exact hn
  cases e : nx a with
  | none =>
    have e1 : it nx 1 a = none := e
    exfalso
    have : ∀ k, it nx (1 + k) a = none := fun k => by
      induction k with
      | zero => exact e1
      | succ k ih => show (it nx (1 + k) a).bind nx = none; rw [ih]; rfl
    rw [this n] at *
    contradiction
  | some b => exact ⟨b, rfl, h0.of_rc (Rc.step e)⟩
theorem Cyc.prev {a : P} (h : Cyc nx a) : ∃ b, nx b = some a ∧ Cyc nx b := by
  have h0 := h
  obtain ⟨n, hn⟩ := h
  change (it nx n a).bind nx = some a at hn
  cases e : it nx n a with
  | none => rw [e] at hn; cases hn
  | some b => rw [e] at hn; exact ⟨b, hn, h0.of_rc ⟨n, e⟩⟩
structure Reps (nx : P → Option P) (R : List P) : Prop where
  sub : ∀ r ∈ R, Cyc nx r
  cov : ∀ c, Cyc nx c → ∃ r ∈ R, Rc nx c r
  sep : R.Pairwise fun a b => ¬ Rc nx a b
theorem reps_le : ∀ {R T : List P}, (∀ r ∈ R, Cyc nx r) → R.Pairwise (fun a b => ¬ Rc nx a b) → (∀ r ∈ R, ∃ t ∈ T, Rc nx r t) → R.length ≤ T.length
  | [], _, _, _, _ => Nat.zero_le _
  | r :: R, T, hs, hp, hc => by
    obtain ⟨t, ht, hrt⟩ := hc r (by simp)
    rw [List.pairwise_cons] at hp
    have : R.length ≤ (T.erase t).length := reps_le (fun q hq => hs q (by simp [hq])) hp.2 fun q hq => by
      obtain ⟨u, hu, hqu⟩ := hc q (by simp [hq])
      have hne : u ≠ t := fun e => by
        subst e
        exact hp.1 q hq (hrt.trans (Rc.symm (hs q (by simp [hq])) hqu))
      exact ⟨u, (List.mem_erase_of_ne hne).mpr hu, hqu⟩
    rw [List.length_erase_of_mem ht] at this
    have : 0 < T.length := List.length_pos_of_mem ht
    simp; omega
theorem reps_len {R T : List P} (h : Reps nx R) (k : Reps nx T) : R.length = T.length :=
  Nat.le_antisymm (reps_le h.sub h.sep fun r hr => k.cov r (h.sub r hr)) (reps_le k.sub k.sep fun r hr => h.cov r (k.sub r hr))
end
end Cb
set_option linter.all false
namespace Cb
section
variable {P A : Type} [DecidableEq P]
noncomputable def look : List (P × A) → P → Option A
  | [], _ => none
  | p :: r, k => if p.1 = k then some p.2 else look r k
noncomputable def put (kvs : List (P × A)) (k : P) (v : A) : List (P × A) := if (kvs.any fun kv => decide (kv.1 = k)) = true then kvs.map (fun kv => if kv.1 = k then (kv.1, v) else kv) else kvs ++ [(k, v)]
noncomputable def drp (kvs : List (P × A)) (k : P) : List (P × A) := kvs.filter fun kv => decide (kv.1 ≠ k)
noncomputable abbrev keys (kvs : List (P × A)) : List P := kvs.map (·.1)
theorem look_some {kvs : List (P × A)} {k : P} {a : A} (h : look kvs k = some a) : (k, a) ∈ kvs := by
  induction kvs with
  | nil => cases h
  | cons p r ih =>
    unfold look at h
    split at h
    · rename_i e; cases h; rw [← e]; simp
    · simp [ih h]
theorem look_key {kvs : List (P × A)} {k : P} {a : A} (h : look kvs k = some a) : k ∈ keys kvs := List.mem_map.mpr ⟨_, look_some h, rfl⟩
theorem look_in {kvs : List (P × A)} {k : P} (h : k ∈ keys kvs) : ∃ a, look kvs k = some a := by
  induction kvs with
  | nil => cases h
  | cons p r ih =>
    unfold look
    by_cases e : p.1 = k
    · exact ⟨_, if_pos e⟩
    · rw [if_neg e]
      rcases List.mem_cons.mp h with rfl | h
      · exact absurd rfl e
      · exact ih h
theorem look_none {kvs : List (P × A)} {k : P} : look kvs k = none ↔ k ∉ keys kvs := by
  constructor
  · intro h z
    obtain ⟨a, e⟩ := look_in z
    rw [h] at e; cases e
  · intro h
    cases e : look kvs k with
    | none => rfl
    | some a => exact absurd (look_key e) h
theorem look_isSome {kvs : List (P × A)} {k : P} : (look kvs k).isSome = decide (k ∈ keys kvs) := by
  by_cases h : k ∈ keys kvs
  · obtain ⟨a, e⟩ := look_in h
    simp [e, h]
  · rw [look_none.mpr h]; simp [h]
theorem look_mem {kvs : List (P × A)} (hn : (keys kvs).Nodup) {k : P} {a : A} (h : (k, a) ∈ kvs) : look kvs k = some a := by
  induction kvs with
  | nil => cases h
  | cons p r ih =>
    unfold look
    rw [keys, List.map_cons, List.nodup_cons] at hn
    rcases List.mem_cons.mp h with rfl | h
    · rw [if_pos rfl]
    · have : p.1 ≠ k := fun e => hn.1 (List.mem_map.mpr ⟨_, h, e.symm⟩)
      rw [if_neg this]
      exact ih hn.2 h
theorem look_drp {kvs : List (P × A)} {k j : P} : look (drp kvs k) j = if j = k then none else look kvs j := by
  induction kvs with
  | nil => simp [drp, look]
  | cons p r ih =>
    unfold drp at ih ⊢
    rw [List.filter_cons]
    by_cases e : p.1 = k
    · rw [if_neg (by simp [e]), ih]
      by_cases hj : j = k
      · rw [if_pos hj, if_pos hj]
      · rw [if_neg hj, if_neg hj, look, if_neg (fun z => hj (z.symm.trans e))]
    · rw [if_pos (by simp [e]), look, look, ih]
      by_cases hj : p.1 = j
      · rw [if_pos hj, if_neg (fun z => e (hj.trans z)), if_pos hj]
      · rw [if_neg hj, if_neg hj]
theorem keys_drp {kvs : List (P × A)} {k j : P} : j ∈ keys (drp kvs k) ↔ j ∈ keys kvs ∧ j ≠ k := by
  constructor
  · intro h
    obtain ⟨a, e⟩ := look_in h
    rw [look_drp] at e
    split at e
    · cases e
    · rename_i hj; exact ⟨look_key e, hj⟩
  · intro ⟨h, hj⟩
    obtain ⟨a, e⟩ := look_in h
    exact look_key (a := a) (by rw [look_drp, if_neg hj]; exact e)
theorem drp_nodup {kvs : List (P × A)} (hn : (keys kvs).Nodup) (k : P) : (keys (drp kvs k)).Nodup :=
  hn.sublist (List.Sublist.map _ List.filter_sublist)
theorem drp_len {kvs : List (P × A)} (hn : (keys kvs).Nodup) {k : P} (h : k ∈ keys kvs) : (drp kvs k).length + 1 = kvs.length := by
  induction kvs with
  | nil => cases h
  | cons p r ih =>
    unfold drp at ih ⊢
    rw [keys, List.map_cons, List.nodup_cons] at hn
    rw [List.filter_cons]
    by_cases e : p.1 = k
    · rw [if_neg (by simp [e])]
      have : r.filter (fun kv => decide (kv.1 ≠ k)) = r := by
        rw [List.filter_eq_self]
        intro x hx
        simp only [decide_eq_true_eq]
        intro z
        exact hn.1 (List.mem_map.mpr ⟨x, hx, z.trans e.symm⟩)
      rw [this]; rfl
    · rw [if_pos (by simp [e])]
      rcases List.mem_cons.mp h with rfl | h
      · exact absurd rfl e
      · have := ih hn.2 h
        simp only [List.length_cons]; omega
theorem any_key {kvs : List (P × A)} {k : P} : (kvs.any fun kv => decide (kv.1 = k)) = decide (k ∈ keys kvs) := by
  induction kvs with
  | nil => rfl
  | cons p r ih =>
    rw [List.any_cons, ih]
    by_cases e : p.1 = k
    · simp [e]
    · by_cases h : k ∈ keys r
      · simp only [h, decide_true, Bool.or_true]; simp [keys] at h ⊢; right; exact h
      · have : k ∉ keys (p :: r) := fun z => by
          rcases List.mem_cons.mp z with rfl | z
          · exact e rfl
          · exact h z
        rw [decide_eq_false e, decide_eq_false h, decide_eq_false this]; rfl
theorem put_new {kvs : List (P × A)} {k : P} {v : A} (h : k ∉ keys kvs) : put kvs k v = kvs ++ [(k, v)] := by
  unfold put; rw [any_key, if_neg (by simp [h])]
theorem look_app {xs ys : List (P × A)} {k : P} : look (xs ++ ys) k = (look xs k).or (look ys k) := by
  induction xs with
  | nil => simp [look]
  | cons p r ih =>
    rw [List.cons_append, look, look]
    by_cases e : p.1 = k
    · rw [if_pos e, if_pos e]; rfl
    · rw [if_neg e, if_neg e, ih]
theorem look_repl {kvs : List (P × A)} {k j : P} {v : A} : look (kvs.map fun kv => if kv.1 = k then (kv.1, v) else kv) j = (look kvs j).map fun a => if j = k then v else a := by
  induction kvs with
  | nil => rfl
  | cons p r ih =>
    rw [List.map_cons, look, look, ih]
    by_cases e : p.1 = k
    · rw [if_pos e]
      by_cases hj : p.1 = j
      · rw [if_pos hj, if_pos hj, Option.map_some, if_pos (hj.symm.trans e)]
      · rw [if_neg hj, if_neg hj]
    · rw [if_neg e]
      by_cases hj : p.1 = j
      · rw [if_pos hj, if_pos hj, Option.map_some, if_neg (fun z => e (hj.trans z))]
      · rw [if_neg hj, if_neg hj]
theorem look_put {kvs : List (P × A)} {k j : P} {v : A} : look (put kvs k v) j = if j = k then some v else look kvs j := by
  unfold put
  rw [any_key]
  by_cases h : k ∈ keys kvs
  · rw [if_pos (by simp [h]), look_repl]
    by_cases e : j = k
    · subst e
      obtain ⟨a, ha⟩ := look_in h
      rw [ha, if_pos rfl, Option.map_some, if_pos rfl]
    · rw [if_neg e]
      cases look kvs j with
      | none => rfl
      | some a => rw [Option.map_some, if_neg e]
  · rw [if_neg (by simp [h]), look_app]
    by_cases e : j = k
    · subst e
      rw [look_none.mpr h, if_pos rfl]; simp [look]
    · rw [if_neg e, look, if_neg (fun z => e z.symm)]; simp [look]
theorem keys_repl {kvs : List (P × A)} {k : P} {v : A} : keys (kvs.map fun kv => if kv.1 = k then (kv.1, v) else kv) = keys kvs := by
  induction kvs with
  | nil => rfl
  | cons p r ih =>
    rw [List.map_cons, keys, List.map_cons, keys, List.map_cons]
    congr 1
    split <;> rfl
theorem keys_put {kvs : List (P × A)} {k : P} {v : A} (h : k ∈ keys kvs) : keys (put kvs k v) = keys kvs := by
  unfold put
  rw [any_key, if_pos (by simp [h]), keys_repl]
end
end Cb
set_option linter.all false
namespace Cb
section
variable {P Sx V : Type} [DecidableEq P]
structure Sys (P Sx V : Type) where
  qk : Sx → P
  isP : Sx → Bool
  kd : P → Sx
  was : P → V
  cst : Sx → V
  ok : P → Prop
  vs : Sx → Prop
  qkd : ∀ k, qk (kd k) = k
  ikd : ∀ k, ok k → isP (kd k) = true
  vkd : ∀ k, ok k → vs (kd k)
variable (Y : Sys P Sx V)
noncomputable def Sys.at_ (v : P → V) (d : Sx) : V := if Y.isP d then v (Y.qk d) else Y.cst d
noncomputable def Sys.vl (ms : List (P × Sx)) : P → V := ms.foldl (fun v m q => if q = m.1 then Y.at_ v m.2 else v q) Y.was
theorem Sys.vl_snoc (ms : List (P × Sx)) (m : P × Sx) (q : P) : Y.vl (ms ++ [m]) q = if q = m.1 then Y.at_ (Y.vl ms) m.2 else Y.vl ms q := by
  unfold Sys.vl; rw [List.foldl_append]; rfl
theorem Sys.at_kd (v : P → V) {k : P} (h : Y.ok k) : Y.at_ v (Y.kd k) = v k := by unfold Sys.at_; rw [Y.ikd k h, Y.qkd]; rfl
structure Good (F : List (P × Sx)) : Prop where
  nd : (keys F).Nodup
  pl : ∀ p d, look F p = some d → Y.isP d = true → d = Y.kd (Y.qk d)
  cn : ∀ p d, look F p = some d → Y.isP d = false → Y.qk d ∉ keys F
  ne : ∀ p d, look F p = some d → Y.qk d ≠ p
  okk : ∀ p ∈ keys F, Y.ok p
  gv : ∀ p d, look F p = some d → Y.vs d
noncomputable def Sys.nx (F : List (P × Sx)) (p : P) : Option P := (look F p).map Y.qk
variable {Y} {F : List (P × Sx)}
noncomputable def cntS (Y : Sys P Sx V) (S : List (P × Sx)) (q : P) : Int := match S with
  | [] => 0
  | m :: r => (if Y.qk m.2 = q then 1 else 0) + cntS Y r q
theorem cntS_nn (S : List (P × Sx)) (q : P) : 0 ≤ cntS Y S q := by
  induction S with
  | nil => exact Int.le_refl _
  | cons m r ih => unfold cntS; split <;> omega
theorem cntS_zero {S : List (P × Sx)} {q : P} (h : cntS Y S q = 0) : ∀ m ∈ S, Y.qk m.2 ≠ q := by
  induction S with
  | nil => intro m hm; cases hm
  | cons m r ih =>
    unfold cntS at h
    have := cntS_nn (Y := Y) r q
    intro z hz
    split at h
    · omega
    · rename_i e
      rcases List.mem_cons.mp hz with rfl | hz
      · exact e
      · exact ih (by omega) z hz
theorem cntS_pos {S : List (P × Sx)} {q : P} (h : cntS Y S q ≠ 0) : ∃ m ∈ S, Y.qk m.2 = q := by
  induction S with
  | nil => exact absurd rfl h
  | cons m r ih =>
    unfold cntS at h
    split at h
    · rename_i e; exact ⟨m, by simp, e⟩
    · obtain ⟨z, hz, e⟩ := ih (by omega)
      exact ⟨z, by simp [hz], e⟩
theorem cntS_app (S T : List (P × Sx)) (q : P) : cntS Y (S ++ T) q = cntS Y S q + cntS Y T q := by
  induction S with
  | nil => simp [cntS]
  | cons m r ih => rw [List.cons_append, cntS, cntS, ih]; omega
theorem cntS_drp {S : List (P × Sx)} (hn : (keys S).Nodup) {p : P} {d : Sx} (h : look S p = some d) (q : P) : cntS Y (drp S p) q = cntS Y S q - if Y.qk d = q then 1 else 0 := by
  induction S with
  | nil => cases h
  | cons m r ih =>
    rw [keys, List.map_cons, List.nodup_cons] at hn
    unfold drp at ih ⊢
    rw [List.filter_cons]
    unfold look at h
    by_cases e : m.1 = p
    · rw [if_pos e] at h
      cases h
      rw [if_neg (by simp [e])]
      have : r.filter (fun kv => decide (kv.1 ≠ p)) = r := by
        rw [List.filter_eq_self]
        intro x hx
        simp only [decide_eq_true_eq]
        intro z
        exact hn.1 (List.mem_map.mpr ⟨x, hx, z.trans e.symm⟩)
      rw [this, cntS]; omega
    · rw [if_neg e] at h
      rw [if_pos (by simp [e]), cntS, cntS, ih hn.2 h]; omega
structure Ph1 (Y : Sys P Sx V) (F S : List (P × Sx)) (rd : List (P × Int)) (fr : List P) (ms : List (P × Sx)) : Prop where
  sub : ∀ p d, look S p = some d → look F p = some d
  nd : (keys S).Nodup
  rk : keys rd = keys F
  cnt : ∀ q n, look rd q = some n → n = cntS Y S q
  fnd : fr.Nodup
  fre : ∀ q, q ∈ fr ↔ q ∈ keys S ∧ cntS Y S q = 0
  cyc : ∀ c, Cyc (Y.nx F) c → c ∈ keys S
  clo : ∀ p d, look S p = some d → Y.qk d ∈ keys F → Y.qk d ∈ keys S
  val : ∀ p d, p ∉ keys S → look F p = some d → Y.vl ms p = Y.at_ Y.was d
  un : ∀ p, p ∈ keys S ∨ p ∉ keys F → Y.vl ms p = Y.was p
  cn : ∀ p, (ms.map (·.1)).count p = if p ∈ keys F ∧ p ∉ keys S then 1 else 0
  len : ms.length + S.length = F.length
  all : ∀ m ∈ ms, Y.ok m.1 ∧ Y.vs m.2
theorem cyc_in {c : P} (h : Cyc (Y.nx F) c) : c ∈ keys F := by
  obtain ⟨b, e, _⟩ := h.next
  unfold Sys.nx at e
  cases q : look F c with
  | none => rw [q] at e; cases e
  | some d => exact look_key q
theorem Ph1.start {rd : List (P × Int)} {fr : List P} (hF : (keys F).Nodup) (rk : keys rd = keys F) (cnt : ∀ q n, look rd q = some n → n = cntS Y F q) (fnd : fr.Nodup) (fre : ∀ q, q ∈ fr ↔ q ∈ keys F ∧ cntS Y F q = 0) : Ph1 Y F F rd fr [] where
  sub := fun _ _ h => h
  nd := hF
  rk := rk
  cnt := cnt
  fnd := fnd
  fre := fre
  cyc := fun _ h => cyc_in h
  clo := fun _ _ _ h => h
  val := fun p d h e => absurd (look_key e) h
  un := fun p _ => rfl
  cn := fun p => by rw [if_neg (fun z => z.2 z.1)]; rfl
  len := by simp
  all := fun m hm => nomatch hm
theorem vl_src {S ms : List (P × Sx)} (hF : Good Y F) {p : P} {d : Sx} (hp : look F p = some d) (clo : Y.qk d ∈ keys F → Y.qk d ∈ keys S) (un : ∀ p, p ∈ keys S ∨ p ∉ keys F → Y.vl ms p = Y.was p) : Y.at_ (Y.vl ms) d = Y.at_ Y.was d := by
  unfold Sys.at_
  by_cases hi : Y.isP d = true
  · rw [if_pos hi, if_pos hi]
    refine un _ ?_
    by_cases h : Y.qk d ∈ keys F
    · exact .inl (clo h)
    · exact .inr h
  · rw [if_neg hi, if_neg hi]
theorem Ph1.step {S : List (P × Sx)} {rd rd' : List (P × Int)} {fr fr' : List P} {ms : List (P × Sx)} {p : P} (hF : Good Y F) (h : Ph1 Y F S rd (fr ++ [p]) ms) {d : Sx} (hd : look S p = some d)
    (hrd : (Y.qk d ∉ keys F → rd' = rd ∧ fr' = fr) ∧ (∀ n, look rd (Y.qk d) = some n → rd' = put rd (Y.qk d) (n - 1) ∧ fr' = if n - 1 = 0 then fr ++ [Y.qk d] else fr)) : Ph1 Y F (drp S p) rd' fr' (ms ++ [(p, d)]) := by
  have hp : p ∈ keys S := look_key hd
  have h0 : cntS Y S p = 0 := ((h.fre p).mp (by simp)).2
  have hpF : look F p = some d := h.sub _ _ hd
  have hz := cntS_zero h0
  have hqp : Y.qk d ≠ p := hz (p, d) (look_some hd)
  have hc : ∀ q, cntS Y (drp S p) q = cntS Y S q - if Y.qk d = q then 1 else 0 := fun q => cntS_drp h.nd hd q
  have hfnd := h.fnd
  rw [List.nodup_append] at hfnd
  obtain ⟨f1, _, f2⟩ := hfnd
  have hpf : p ∉ fr := fun z => f2 p z p (by simp) rfl
  have hrk : keys rd' = keys F ∧ (∀ q n, look rd' q = some n → n = cntS Y (drp S p) q) ∧ fr'.Nodup ∧ ∀ q, q ∈ fr' ↔ q ∈ keys (drp S p) ∧ cntS Y (drp S p) q = 0 := by
    by_cases hk : Y.qk d ∈ keys F
    · obtain ⟨n, hn⟩ := look_in (kvs := rd) (by rw [h.rk]; exact hk)
      obtain ⟨rfl, rfl⟩ := hrd.2 n hn
      have en := h.cnt _ _ hn
      have hin : Y.qk d ∈ keys S := h.clo _ _ hd hk
      refine ⟨by rw [keys_put (look_key hn)]; exact h.rk, fun q m e => ?_, ?_, fun q => ?_⟩
      · rw [look_put] at e
        rw [hc q]
        by_cases hq : q = Y.qk d
        · rw [if_pos hq] at e
          cases e
          rw [if_pos hq.symm, hq]; omega
        · rw [if_neg hq] at e
          rw [if_neg (fun z => hq z.symm), h.cnt _ _ e]; omega
      · split
        · rw [List.nodup_append]
          refine ⟨f1, by simp, fun a ha b hb => ?_⟩
          have : b = Y.qk d := by simpa using hb
          subst this
          intro e
          subst e
          have := ((h.fre (Y.qk d)).mp (by simp [ha])).2
          have hpos := cntS_zero this (p, d) (look_some hd)
          exact hpos rfl
        · exact f1
      · rw [keys_drp, hc q]
        have hfq := h.fre q
        by_cases hq : Y.qk d = q
        · subst hq
          rw [if_pos rfl]
          have hnq : Y.qk d ∉ fr := fun z => by
            have := ((h.fre (Y.qk d)).mp (by simp [z])).2
            exact cntS_zero this (p, d) (look_some hd) rfl
          split
          · rename_i e
            constructor
            · intro _; exact ⟨⟨hin, hqp⟩, by omega⟩
            · intro _; simp
          · rename_i e
            constructor
            · intro z; exact absurd z hnq
            · intro z; exact absurd z.2 (by omega)
        · rw [if_neg hq]
          have e1 : q ∈ (if n - 1 = 0 then fr ++ [Y.qk d] else fr) ↔ q ∈ fr := by
            split
            · constructor
              · intro z
                rcases List.mem_append.mp z with z | z
                · exact z
                · exact absurd (Eq.symm (by simpa using z)) hq
              · intro z; exact List.mem_append.mpr (.inl z)
            · exact Iff.rfl
          rw [e1]
          constructor
          · intro z
            have := hfq.mp (by simp [z])
            exact ⟨⟨this.1, fun e => hpf (e ▸ z)⟩, by omega⟩
          · intro z
            have := hfq.mpr ⟨z.1.1, by omega⟩
            rcases List.mem_append.mp this with w | w
            · exact w
            · exact absurd (by simpa using w) z.1.2
    · obtain ⟨rfl, rfl⟩ := hrd.1 hk
      have hcc : ∀ q, q ∈ keys F → cntS Y (drp S p) q = cntS Y S q := fun q hq => by
        have : Y.qk d ≠ q := fun z => hk (z ▸ hq)
        rw [hc q, if_neg this]; omega
      refine ⟨h.rk, fun q m e => ?_, f1, fun q => ?_⟩
      · rw [hcc q (by rw [← h.rk]; exact look_key e)]; exact h.cnt _ _ e
      · rw [keys_drp]
        constructor
        · intro z
          have := (h.fre q).mp (by simp [z])
          refine ⟨⟨this.1, fun e => hpf (e ▸ z)⟩, ?_⟩
          obtain ⟨a, ha⟩ := look_in this.1
          rw [hcc q (look_key (h.sub _ _ ha))]; exact this.2
        · intro z
          obtain ⟨a, ha⟩ := look_in z.1.1
          have := (h.fre q).mpr ⟨z.1.1, by rw [← hcc q (look_key (h.sub _ _ ha))]; exact z.2⟩
          rcases List.mem_append.mp this with w | w
          · exact w
          · exact absurd (by simpa using w) z.1.2
  obtain ⟨k1, k2, k3, k4⟩ := hrk
  refine ⟨fun q e hq => ?_, drp_nodup h.nd p, k1, k2, k3, k4, fun c hcy => ?_, fun q e hq hk => ?_, fun q e hq he => ?_, fun q hq => ?_, fun q => ?_, ?_, fun m hm => ?_⟩
  · rw [look_drp] at hq
    split at hq
    · cases hq
    · exact h.sub _ _ hq
  · rw [keys_drp]
    refine ⟨h.cyc c hcy, fun e => ?_⟩
    subst e
    obtain ⟨b, hb, hbc⟩ := hcy.prev
    obtain ⟨e, he⟩ := look_in (h.cyc b hbc)
    have hb' := h.sub _ _ he
    unfold Sys.nx at hb
    rw [hb'] at hb
    exact hz (b, e) (look_some he) (Option.some.inj hb)
  · rw [look_drp] at hq
    split at hq
    · cases hq
    · rw [keys_drp]
      exact ⟨h.clo _ _ hq hk, hz (q, e) (look_some hq)⟩
  · rw [Y.vl_snoc]
    by_cases hqp : q = p
    · subst hqp
      rw [if_pos rfl]
      rw [hpF] at he
      cases he
      exact vl_src hF hpF (h.clo _ _ hd) h.un
    · rw [if_neg hqp]
      exact h.val q e (fun z => hq (keys_drp.mpr ⟨z, hqp⟩)) he
  · rw [Y.vl_snoc]
    have : q ≠ p := by
      rcases hq with z | z
      · exact (keys_drp.mp z).2
      · exact fun e => z (e ▸ look_key hpF)
    rw [if_neg this]
    exact h.un q (hq.imp (fun z => (keys_drp.mp z).1) id)
  · rw [List.map_append, List.count_append, h.cn q]
    by_cases hqp : q = p
    · subst hqp
      have a1 : ¬(q ∈ keys F ∧ q ∉ keys S) := fun z => z.2 hp
      have a2 : q ∈ keys F ∧ q ∉ keys (drp S q) := ⟨look_key hpF, fun z => (keys_drp.mp z).2 rfl⟩
      rw [if_neg a1, if_pos a2]; simp
    · have : (q ∈ keys F ∧ q ∉ keys (drp S p)) ↔ (q ∈ keys F ∧ q ∉ keys S) := by
        rw [keys_drp]
        constructor
        · exact fun z => ⟨z.1, fun w => z.2 ⟨w, hqp⟩⟩
        · exact fun z => ⟨z.1, fun w => z.2 w.1⟩
      simp only [this]
      have e0 : List.count q [p] = 0 := by simp [List.count_cons, Ne.symm hqp]
      show _ + List.count q [p] = _
      rw [e0]; rfl
  · have := drp_len h.nd hp
    have := h.len
    simp; omega
  · rcases List.mem_append.mp hm with hm | hm
    · exact h.all m hm
    · have : m = (p, d) := by simpa using hm
      subst this
      exact ⟨hF.okk _ (look_key hpF), hF.gv _ _ hpF⟩
end
end Cb
set_option linter.all false
namespace Cb
section
variable {P Sx V : Type} [DecidableEq P] {Y : Sys P Sx V} {F : List (P × Sx)}
structure Ph2 (Y : Sys P Sx V) (F : List (P × Sx)) (sp : P) (S ms : List (P × Sx)) (R : List P) : Prop where
  sub : ∀ p d, look S p = some d → look F p = some d
  nd : (keys S).Nodup
  clo : ∀ p d, look S p = some d → Y.qk d ∈ keys S
  inj : ∀ p d p' d', look S p = some d → look S p' = some d' → Y.qk d = Y.qk d' → p = p'
  cov : ∀ c, Cyc (Y.nx F) c → c ∈ keys S ∨ ∃ r ∈ R, Rc (Y.nx F) c r
  rs : ∀ r ∈ R, Cyc (Y.nx F) r
  sep : R.Pairwise fun a b => ¬ Rc (Y.nx F) a b
  off : ∀ r ∈ R, ∀ c ∈ keys S, ¬ Rc (Y.nx F) r c
  val : ∀ p d, p ∉ keys S → look F p = some d → Y.vl ms p = Y.at_ Y.was d
  un : ∀ p, p ∈ keys S ∨ p ∉ keys F → p ≠ sp → Y.vl ms p = Y.was p
  cn : ∀ p, p ≠ sp → (ms.map (·.1)).count p = if p ∈ keys F ∧ p ∉ keys S then 1 else 0
  cs : (ms.map (·.1)).count sp = R.length
  len : ms.length + S.length = F.length + R.length
  all : ∀ m ∈ ms, Y.ok m.1 ∧ Y.vs m.2
theorem Ph1.two {S : List (P × Sx)} {rd : List (P × Int)} {ms : List (P × Sx)} {sp : P} (hsp : sp ∉ keys F) (h : Ph1 Y F S rd [] ms) : Ph2 Y F sp S ms [] := by
  have hall : ∀ q ∈ keys S, some q ∈ S.map (fun m => some (Y.qk m.2)) := fun q hq => by
    have : cntS Y S q ≠ 0 := fun e => nomatch (h.fre q).mpr ⟨hq, e⟩
    obtain ⟨m, hm, e⟩ := cntS_pos this
    exact List.mem_map.mpr ⟨m, hm, by rw [e]⟩
  obtain ⟨p1, p2⟩ := pigeon h.nd (by simp) hall
  refine ⟨h.sub, h.nd, fun p d e => ?_, fun p d p' d' e e' q => ?_, fun c hc => .inl (h.cyc c hc), (fun r hr => nomatch hr), .nil, (fun r hr => nomatch hr), h.val, fun p hp _ => h.un p hp, fun p _ => h.cn p, ?_, by have := h.len; simpa using this, h.all⟩
  · obtain ⟨x, hx, ex⟩ := p2 (some (Y.qk d)) (List.mem_map.mpr ⟨_, look_some e, rfl⟩)
    cases ex
    exact hx
  · have m1 := look_some e
    have m2 := look_some e'
    obtain ⟨i, hi⟩ := List.mem_iff_getElem?.mp m1
    obtain ⟨j, hj⟩ := List.mem_iff_getElem?.mp m2
    have ei : (S.map (fun m => some (Y.qk m.2)))[i]? = some (some (Y.qk d)) := by rw [List.getElem?_map, hi]; rfl
    have ej : (S.map (fun m => some (Y.qk m.2)))[j]? = some (some (Y.qk d')) := by rw [List.getElem?_map, hj]; rfl
    have : i = j := (List.getElem?_inj (List.getElem?_eq_some_iff.mp ei).1 p1).mp (by rw [ei, ej, q])
    subst this
    rw [hi] at hj
    cases hj
    rfl
  · rw [h.cn sp, if_neg (fun z => hsp z.1)]; rfl
structure Rg (Y : Sys P Sx V) (F : List (P × Sx)) (sp : P) (S0 ms0 : List (P × Sx)) (b : P) (vs : List P) (c : P) (S ms : List (P × Sx)) : Prop where
  lk : ∀ p, look S p = if p ∈ vs then none else look S0 p
  nd : (keys S).Nodup
  vnd : (vs ++ [c]).Nodup
  vin : ∀ p ∈ vs ++ [c], p ∈ keys S0
  vb : b ∈ vs ++ [c]
  suc : ∀ p ∈ vs, ∃ q ∈ vs ++ [c], Y.nx F p = some q
  pre : ∀ q ∈ vs ++ [c], q ≠ b → ∃ p ∈ vs, Y.nx F p = some q
  frm : ∀ q ∈ vs ++ [c], Rc (Y.nx F) b q
  tow : ∀ q ∈ vs ++ [c], Rc (Y.nx F) q c
  val : ∀ p ∈ vs, ∀ d, look F p = some d → Y.vl ms p = Y.at_ Y.was d
  vsp : Y.vl ms sp = Y.was b
  un : ∀ p, p ∉ vs → p ≠ sp → Y.vl ms p = Y.vl ms0 p
  cn : ∀ p, p ≠ sp → (ms.map (·.1)).count p = (ms0.map (·.1)).count p + if p ∈ vs then 1 else 0
  cs : (ms.map (·.1)).count sp = (ms0.map (·.1)).count sp + 1
  len : ms.length = ms0.length + 1 + vs.length
  sl : S.length + vs.length = S0.length
  all : ∀ m ∈ ms, Y.ok m.1 ∧ Y.vs m.2
theorem Rg.start {sp b : P} {S0 ms0 : List (P × Sx)} {R : List P} (hF : Good Y F) (hok : Y.ok sp) (hsp : sp ∉ keys F) (h : Ph2 Y F sp S0 ms0 R) (hb : b ∈ keys S0) : Rg Y F sp S0 ms0 b [] b S0 (ms0 ++ [(sp, Y.kd b)]) := by
  have hbF : b ∈ keys F := by obtain ⟨d, e⟩ := look_in hb; exact look_key (h.sub _ _ e)
  have hbs : b ≠ sp := fun e => hsp (e ▸ hbF)
  refine ⟨fun p => by simp, h.nd, by simp, by simpa using hb, by simp, (fun p hp => nomatch hp), fun q hq hne => absurd (by simpa using hq) hne, fun q hq => ?_, fun q hq => ?_, (fun p hp => nomatch hp), ?_, fun p _ hp => ?_, fun p hp => ?_, ?_, by simp, by simp, fun m hm => ?_⟩
  · have : q = b := by simpa using hq
    subst this; exact Rc.refl _
  · have : q = b := by simpa using hq
    subst this; exact Rc.refl _
  · rw [Y.vl_snoc, if_pos rfl, Y.at_kd _ (hF.okk b hbF)]; exact h.un b (.inl hb) hbs
  · rw [Y.vl_snoc, if_neg hp]
  · rw [List.map_append, List.count_append]
    have e0 : List.count p [sp] = 0 := by simp [List.count_cons, Ne.symm hp]
    show _ + List.count p [sp] = _
    rw [e0]; simp
  · rw [List.map_append, List.count_append]; simp
  · rcases List.mem_append.mp hm with hm | hm
    · exact h.all m hm
    · have : m = (sp, Y.kd b) := by simpa using hm
      subst this
      exact ⟨hok, Y.vkd _ (hF.okk b hbF)⟩
theorem nodup_snoc {xs : List P} {a : P} (h : xs.Nodup) (ha : a ∉ xs) : (xs ++ [a]).Nodup := by
  rw [List.nodup_append]
  refine ⟨h, by simp, fun x hx y hy e => ?_⟩
  have : y = a := by simpa using hy
  exact ha (this ▸ e ▸ hx)
theorem Rg.here {sp b c : P} {S0 ms0 S ms : List (P × Sx)} {vs : List P} (g : Rg Y F sp S0 ms0 b vs c S ms) : c ∉ vs ∧ ∃ d, look S c = some d ∧ look S0 c = some d := by
  have hv := g.vnd
  rw [List.nodup_append] at hv
  have hc : c ∉ vs := fun z => hv.2.2 c z c (by simp) rfl
  obtain ⟨d, e⟩ := look_in (g.vin c (by simp))
  exact ⟨hc, d, by rw [g.lk, if_neg hc]; exact e, e⟩
theorem Rg.step {sp b c : P} {S0 ms0 S ms : List (P × Sx)} {R vs : List P} (hF : Good Y F) (hsp : sp ∉ keys F) (h : Ph2 Y F sp S0 ms0 R) (g : Rg Y F sp S0 ms0 b vs c S ms) {d : Sx} (hd : look S c = some d) (hb : Y.qk d ≠ b) :
    Rg Y F sp S0 ms0 b (vs ++ [c]) (Y.qk d) (drp S c) (ms ++ [(c, d)]) := by
  obtain ⟨hc, d', e1, hd0⟩ := g.here
  rw [hd] at e1
  cases e1
  have hdF := h.sub _ _ hd0
  have hnx : Y.nx F c = some (Y.qk d) := by unfold Sys.nx; rw [hdF]; rfl
  have hcF := look_key hdF
  have hcs : c ≠ sp := fun e => hsp (e ▸ hcF)
  have hq0 : Y.qk d ∈ keys S0 := h.clo _ _ hd0
  have hnew : Y.qk d ∉ vs ++ [c] := fun z => by
    obtain ⟨p, hp, e⟩ := g.pre _ z hb
    obtain ⟨dp, hdp⟩ := look_in (g.vin p (by simp [hp]))
    have hdpF := h.sub _ _ hdp
    unfold Sys.nx at e
    rw [hdpF] at e
    have : p = c := h.inj _ _ _ _ hdp hd0 (Option.some.inj e)
    exact hc (this ▸ hp)
  have hqs : Y.qk d ≠ sp := fun e => by
    obtain ⟨a, ha⟩ := look_in hq0
    exact hsp (e ▸ look_key (h.sub _ _ ha))
  refine ⟨fun p => ?_, drp_nodup g.nd c, nodup_snoc g.vnd hnew, fun p hp => ?_, List.mem_append.mpr (.inl g.vb), fun p hp => ?_, fun q hq hne => ?_, fun q hq => ?_, fun q hq => ?_, fun p hp e he => ?_, ?_, fun p hp hs => ?_, fun p hs => ?_, ?_, ?_, ?_, fun m hm => ?_⟩
  · rw [look_drp, g.lk]
    by_cases e : p = c
    · rw [if_pos e, if_pos (by simp [e])]
    · rw [if_neg e]
      by_cases hv : p ∈ vs
      · rw [if_pos hv, if_pos (by simp [hv])]
      · rw [if_neg hv, if_neg (by simp [hv, e])]
  · rcases List.mem_append.mp hp with hp | hp
    · exact g.vin p hp
    · have : p = Y.qk d := by simpa using hp
      rw [this]; exact hq0
  · rcases List.mem_append.mp hp with hp | hp
    · obtain ⟨q, hq, e⟩ := g.suc p hp
      exact ⟨q, List.mem_append.mpr (.inl hq), e⟩
    · have : p = c := by simpa using hp
      subst this
      exact ⟨_, List.mem_append.mpr (.inr (by simp)), hnx⟩
  · rcases List.mem_append.mp hq with hq | hq
    · obtain ⟨p, hp, e⟩ := g.pre q hq hne
      exact ⟨p, List.mem_append.mpr (.inl hp), e⟩
    · have : q = Y.qk d := by simpa using hq
      subst this
      exact ⟨c, by simp, hnx⟩
  · rcases List.mem_append.mp hq with hq | hq
    · exact g.frm q hq
    · have : q = Y.qk d := by simpa using hq
      subst this
      exact (g.frm c (by simp)).trans (Rc.step hnx)
  · rcases List.mem_append.mp hq with hq | hq
    · exact (g.tow q hq).trans (Rc.step hnx)
    · have : q = Y.qk d := by simpa using hq
      subst this
      exact Rc.refl _
  · rw [Y.vl_snoc]
    rcases List.mem_append.mp hp with hp | hp
    · have hne : p ≠ c := fun z => hc (z ▸ hp)
      rw [if_neg hne]; exact g.val p hp e he
    · have : p = c := by simpa using hp
      subst this
      rw [if_pos rfl]
      rw [hdF] at he
      cases he
      show Y.at_ (Y.vl ms) d = _
      unfold Sys.at_
      by_cases hi : Y.isP d = true
      · rw [if_pos hi, if_pos hi, g.un _ (fun z => hnew (List.mem_append.mpr (.inl z))) hqs]
        exact h.un _ (.inl hq0) hqs
      · rw [if_neg hi, if_neg hi]
  · rw [Y.vl_snoc, if_neg (Ne.symm hcs)]; exact g.vsp
  · rw [Y.vl_snoc, if_neg (fun e => hp (by simp [e]))]
    exact g.un p (fun z => hp (by simp [z])) hs
  · rw [List.map_append, List.count_append, g.cn p hs]
    by_cases e : p = c
    · subst e
      rw [if_neg hc, if_pos (by simp)]; simp
    · have e0 : List.count p [c] = 0 := by simp [List.count_cons, Ne.symm e]
      have : (p ∈ vs ++ [c]) ↔ p ∈ vs := by simp [e]
      simp only [this]
      show _ + List.count p [c] = _
      rw [e0]; rfl
  · rw [List.map_append, List.count_append, g.cs]
    have e0 : List.count sp [c] = 0 := by simp [List.count_cons, hcs]
    show _ + List.count sp [c] = _
    rw [e0]
  · have := g.len; simp; omega
  · have := drp_len g.nd (look_key hd); have := g.sl; simp; omega
  · rcases List.mem_append.mp hm with hm | hm
    · exact g.all m hm
    · have : m = (c, d) := by simpa using hm
      subst this
      exact ⟨hF.okk _ hcF, hF.gv _ _ hdF⟩
theorem Rg.fin {sp b c : P} {S0 ms0 S ms : List (P × Sx)} {R vs : List P} (hF : Good Y F) (hok : Y.ok sp) (hsp : sp ∉ keys F) (h : Ph2 Y F sp S0 ms0 R) (g : Rg Y F sp S0 ms0 b vs c S ms) {d : Sx} (hd : look S c = some d) (hb : Y.qk d = b) :
    Ph2 Y F sp (drp S c) (ms ++ [(c, Y.kd sp)]) (R ++ [b]) := by
  obtain ⟨hc, d', e1, hd0⟩ := g.here
  rw [hd] at e1
  cases e1
  have hdF := h.sub _ _ hd0
  have hnx : Y.nx F c = some b := by unfold Sys.nx; rw [hdF, ← hb]; rfl
  have hcF := look_key hdF
  have hcs : c ≠ sp := fun e => hsp (e ▸ hcF)
  have hbF : b ∈ keys F := by obtain ⟨a, ha⟩ := look_in (g.vin b g.vb); exact look_key (h.sub _ _ ha)
  have lk : ∀ p, look (drp S c) p = if p ∈ vs ++ [c] then none else look S0 p := fun p => by
    rw [look_drp, g.lk]
    by_cases e : p = c
    · rw [if_pos e, if_pos (by simp [e])]
    · rw [if_neg e]
      by_cases hv : p ∈ vs
      · rw [if_pos hv, if_pos (by simp [hv])]
      · rw [if_neg hv, if_neg (by simp [hv, e])]
  have kk : ∀ p, p ∈ keys (drp S c) ↔ p ∈ keys S0 ∧ p ∉ vs ++ [c] := fun p => by
    constructor
    · intro z
      obtain ⟨a, ha⟩ := look_in z
      rw [lk] at ha
      split at ha
      · cases ha
      · rename_i hv; exact ⟨look_key ha, hv⟩
    · intro ⟨z, hv⟩
      obtain ⟨a, ha⟩ := look_in z
      exact look_key (a := a) (by rw [lk, if_neg hv]; exact ha)
  have l0 : ∀ {p a}, look (drp S c) p = some a → look S0 p = some a ∧ p ∉ vs ++ [c] := fun {p a} e => by
    rw [lk] at e
    split at e
    · cases e
    · rename_i hv; exact ⟨e, hv⟩
  have clT : ∀ a q, a ∈ vs ++ [c] → Y.nx F a = some q → q ∈ vs ++ [c] := fun a q ha e => by
    rcases List.mem_append.mp ha with ha | ha
    · obtain ⟨q', hq', e'⟩ := g.suc a ha
      rw [e] at e'; cases e'; exact hq'
    · have : a = c := by simpa using ha
      subst this
      rw [hnx] at e; cases e; exact g.vb
  have hcy : Cyc (Y.nx F) b := by
    obtain ⟨n, hn⟩ := g.frm c (by simp)
    exact ⟨n, by show (it (Y.nx F) n b).bind (Y.nx F) = some b; rw [hn]; exact hnx⟩
  refine ⟨fun p a e => h.sub _ _ (l0 e).1, drp_nodup g.nd c, fun p a e => ?_, fun p a p' a' e e' q => h.inj _ _ _ _ (l0 e).1 (l0 e').1 q, fun x hx => ?_, fun r hr => ?_, ?_, fun r hr x hx => ?_, fun p a hp he => ?_, fun p hp hs => ?_, fun p hs => ?_, ?_, ?_, fun m hm => ?_⟩
  · obtain ⟨e0, hv⟩ := l0 e
    rw [kk]
    refine ⟨h.clo _ _ e0, fun z => ?_⟩
    by_cases hqb : Y.qk a = b
    · have : p = c := h.inj _ _ _ _ e0 hd0 (hqb.trans hb.symm)
      exact hv (by simp [this])
    · obtain ⟨p', hp', e2⟩ := g.pre _ z hqb
      obtain ⟨dp, hdp⟩ := look_in (g.vin p' (by simp [hp']))
      have hdpF := h.sub _ _ hdp
      unfold Sys.nx at e2
      rw [hdpF] at e2
      have : p' = p := h.inj _ _ _ _ hdp e0 (Option.some.inj e2)
      exact hv (by simp [← this, hp'])
  · rcases h.cov x hx with z | ⟨r, hr, e⟩
    · by_cases hv : x ∈ vs ++ [c]
      · exact .inr ⟨b, by simp, (g.tow x hv).trans (Rc.step hnx)⟩
      · exact .inl ((kk x).mpr ⟨z, hv⟩)
    · exact .inr ⟨r, by simp [hr], e⟩
  · rcases List.mem_append.mp hr with hr | hr
    · exact h.rs r hr
    · have : r = b := by simpa using hr
      subst this; exact hcy
  · rw [List.pairwise_append]
    refine ⟨h.sep, by simp, fun r hr x hx => ?_⟩
    have : x = b := by simpa using hx
    subst this
    exact h.off r hr _ (g.vin _ g.vb)
  · rw [kk] at hx
    rcases List.mem_append.mp hr with hr | hr
    · exact h.off r hr x hx.1
    · have : r = b := by simpa using hr
      subst this
      exact fun z => hx.2 (closed (T := fun p => p ∈ vs ++ [c]) clT g.vb z)
  · rw [Y.vl_snoc]
    by_cases e : p = c
    · subst e
      rw [if_pos rfl, Y.at_kd _ hok, g.vsp]
      rw [hdF] at he
      cases he
      unfold Sys.at_
      by_cases hi : Y.isP d = true
      · rw [if_pos hi, hb]
      · exact absurd (show Y.qk d ∈ keys F by rw [hb]; exact hbF) (hF.cn _ _ hdF (by simpa using hi))
    · rw [if_neg e]
      by_cases hv : p ∈ vs
      · exact g.val p hv a he
      · have hps : p ≠ sp := fun z => hsp (z ▸ look_key he)
        rw [g.un p hv hps]
        refine h.val p a (fun z => hp ((kk p).mpr ⟨z, by simp [hv, e]⟩)) he
  · have e : p ≠ c := by
      rcases hp with z | z
      · exact fun e => ((kk p).mp z).2 (by simp [e])
      · exact fun e => z (e ▸ hcF)
    have hv : p ∉ vs := by
      rcases hp with z | z
      · exact fun w => ((kk p).mp z).2 (by simp [w])
      · intro w
        obtain ⟨a, ha⟩ := look_in (g.vin p (by simp [w]))
        exact z (look_key (h.sub _ _ ha))
    rw [Y.vl_snoc, if_neg e, g.un p hv hs]
    exact h.un p (hp.imp (fun z => ((kk p).mp z).1) id) hs
  · rw [List.map_append, List.count_append, g.cn p hs, h.cn p hs]
    by_cases hv : p ∈ vs ++ [c]
    · have hin := g.vin p hv
      have hpF : p ∈ keys F := by obtain ⟨a, ha⟩ := look_in hin; exact look_key (h.sub _ _ ha)
      rw [if_neg (show ¬(p ∈ keys F ∧ p ∉ keys S0) from fun z => z.2 hin), if_pos (show p ∈ keys F ∧ p ∉ keys (drp S c) from ⟨hpF, fun z => ((kk p).mp z).2 hv⟩)]
      by_cases e : p = c
      · subst e; rw [if_neg hc]; simp
      · have : p ∈ vs := by simpa [e] using hv
        rw [if_pos this]
        have e0 : List.count p [c] = 0 := by simp [List.count_cons, Ne.symm e]
        show _ + List.count p [c] = _
        rw [e0]
    · have e : p ≠ c := fun z => hv (by simp [z])
      have hv' : p ∉ vs := fun z => hv (by simp [z])
      have e0 : List.count p [c] = 0 := by simp [List.count_cons, Ne.symm e]
      have : (p ∈ keys F ∧ p ∉ keys (drp S c)) ↔ (p ∈ keys F ∧ p ∉ keys S0) := by
        rw [kk]
        constructor
        · exact fun z => ⟨z.1, fun w => z.2 ⟨w, hv⟩⟩
        · exact fun z => ⟨z.1, fun w => z.2 w.1⟩
      simp only [this]
      rw [if_neg hv']
      show _ + List.count p [c] = _
      rw [e0]; rfl
  · rw [List.map_append, List.count_append, g.cs, h.cs]
    have e0 : List.count sp [c] = 0 := by simp [List.count_cons, hcs]
    show _ + List.count sp [c] = _
    rw [e0]; simp
  · have := drp_len g.nd (look_key hd)
    have := g.sl
    have := g.len
    have := h.len
    simp; omega
  · rcases List.mem_append.mp hm with hm | hm
    · exact g.all m hm
    · have : m = (c, Y.kd sp) := by simpa using hm
      subst this
      exact ⟨hF.okk _ hcF, Y.vkd _ hok⟩
structure Told (Y : Sys P Sx V) (F : List (P × Sx)) (sp : P) (ms : List (P × Sx)) (R : List P) : Prop where
  reps : Reps (Y.nx F) R
  val : ∀ p d, look F p = some d → Y.vl ms p = Y.at_ Y.was d
  un : ∀ p, p ∉ keys F → p ≠ sp → Y.vl ms p = Y.was p
  cn : ∀ p, p ≠ sp → (ms.map (·.1)).count p = if p ∈ keys F then 1 else 0
  cs : (ms.map (·.1)).count sp = R.length
  len : ms.length = F.length + R.length
  all : ∀ m ∈ ms, Y.ok m.1 ∧ Y.vs m.2
theorem Ph2.told {sp : P} {ms : List (P × Sx)} {R : List P} (h : Ph2 Y F sp [] ms R) : Told Y F sp ms R :=
  ⟨⟨h.rs, fun c hc => (h.cov c hc).elim (fun z => nomatch z) id, h.sep⟩, fun p d e => h.val p d (fun z => nomatch z) e, fun p hp hs => h.un p (.inr hp) hs, fun p hs => by
    rw [h.cn p hs]
    by_cases e : p ∈ keys F
    · rw [if_pos ⟨e, fun z => nomatch z⟩, if_pos e]
    · rw [if_neg (fun z => e z.1), if_neg e], h.cs, by have := h.len; simpa using this, h.all⟩
structure Rn (Y : Sys P Sx V) (F : List (P × Sx)) (Sn R : List P) : Prop where
  sd : ∀ p ∈ Sn, p ∈ keys F
  nd : Sn.Nodup
  clo : ∀ p ∈ Sn, ∀ q, Y.nx F p = some q → q ∈ keys F → q ∈ Sn
  cov : ∀ c, Cyc (Y.nx F) c → c ∈ Sn → ∃ r ∈ R, Rc (Y.nx F) c r
  rs : ∀ r ∈ R, Cyc (Y.nx F) r ∧ r ∈ Sn
  sep : R.Pairwise fun a b => ¬ Rc (Y.nx F) a b
theorem Rn.start : Rn Y F [] [] := ⟨(fun _ z => nomatch z), .nil, (fun _ z => nomatch z), (fun _ _ z => nomatch z), (fun _ z => nomatch z), .nil⟩
structure Wk (Y : Sys P Sx V) (F : List (P × Sx)) (Sn : List P) (start : P) (ln : List P) (h : P) : Prop where
  nd : (Sn ++ ln).Nodup
  sd : ∀ p ∈ ln, p ∈ keys F
  suc : ∀ p ∈ ln, ∃ q, Y.nx F p = some q ∧ (q ∈ ln ∨ q = h)
  tow : ∀ p ∈ ln, Rc (Y.nx F) p h
  st : start ∈ ln ∨ start = h
theorem Wk.start {Sn : List P} (hn : Sn.Nodup) (p : P) : Wk Y F Sn p [] p := ⟨by simpa using hn, (fun _ z => nomatch z), (fun _ z => nomatch z), (fun _ z => nomatch z), .inr rfl⟩
theorem Wk.step {Sn ln : List P} {start h : P} (k : Wk Y F Sn start ln h) {d : Sx} (hd : look F h = some d) (hs : h ∉ Sn ++ ln) : Wk Y F Sn start (ln ++ [h]) (Y.qk d) := by
  have hnx : Y.nx F h = some (Y.qk d) := by unfold Sys.nx; rw [hd]; rfl
  refine ⟨by rw [← List.append_assoc]; exact nodup_snoc k.nd hs, fun p hp => ?_, fun p hp => ?_, fun p hp => ?_, .inl ?_⟩
  · rcases List.mem_append.mp hp with hp | hp
    · exact k.sd p hp
    · have : p = h := by simpa using hp
      subst this; exact look_key hd
  · rcases List.mem_append.mp hp with hp | hp
    · obtain ⟨q, e, hq⟩ := k.suc p hp
      exact ⟨q, e, .inl (by rcases hq with z | z <;> simp [z])⟩
    · have : p = h := by simpa using hp
      subst this; exact ⟨_, hnx, .inr rfl⟩
  · rcases List.mem_append.mp hp with hp | hp
    · exact (k.tow p hp).trans (Rc.step hnx)
    · have : p = h := by simpa using hp
      subst this; exact Rc.step hnx
  · rcases k.st with z | z <;> simp [z]
theorem Rn.step {Sn R ln : List P} {start h : P} (r : Rn Y F Sn R) (k : Wk Y F Sn start ln h) (hst : start ∈ keys F) (he : h ∉ keys F ∨ h ∈ Sn ++ ln) :
    start ∈ Sn ++ ln ∧ Rn Y F (Sn ++ ln) (if h ∈ ln then R ++ [h] else R) := by
  have hsd : ∀ p ∈ Sn ++ ln, p ∈ keys F := fun p hp => (List.mem_append.mp hp).elim (r.sd p) (k.sd p)
  have hdis : ∀ p ∈ ln, p ∉ Sn := fun p hp z => by
    have := k.nd
    rw [List.nodup_append] at this
    exact this.2.2 p z p hp rfl
  have old : ∀ a b, (a ∈ Sn ∨ a ∉ keys F) → Y.nx F a = some b → (b ∈ Sn ∨ b ∉ keys F) := fun a b ha e => by
    rcases ha with ha | ha
    · by_cases hb : b ∈ keys F
      · exact .inl (r.clo a ha b e hb)
      · exact .inr hb
    · unfold Sys.nx at e
      rw [look_none.mpr ha] at e
      cases e
  refine ⟨?_, hsd, k.nd, fun p hp q e hq => ?_, fun c hc hin => ?_, fun x hx => ?_, ?_⟩
  · rcases k.st with z | z
    · exact List.mem_append.mpr (.inr z)
    · rcases he with w | w
      · exact absurd hst (z ▸ w)
      · exact z ▸ w
  · rcases List.mem_append.mp hp with hp | hp
    · exact List.mem_append.mpr (.inl (r.clo p hp q e hq))
    · obtain ⟨q', e', z⟩ := k.suc p hp
      rw [e] at e'
      cases e'
      rcases z with z | z
      · exact List.mem_append.mpr (.inr z)
      · subst z
        rcases he with w | w
        · exact absurd hq w
        · exact w
  · rcases List.mem_append.mp hin with hin | hin
    · obtain ⟨x, hx, e⟩ := r.cov c hc hin
      exact ⟨x, by split <;> simp [hx], e⟩
    · by_cases hl : h ∈ ln
      · rw [if_pos hl]; exact ⟨h, by simp, k.tow c hin⟩
      · exfalso
        have hh : h ∈ Sn ∨ h ∉ keys F := by
          rcases he with w | w
          · exact .inr w
          · exact .inl ((List.mem_append.mp w).resolve_right hl)
        rcases closed (T := fun p => p ∈ Sn ∨ p ∉ keys F) old hh (Rc.symm hc (k.tow c hin)) with z | z
        · exact hdis c hin z
        · exact z (k.sd c hin)
  · by_cases hl : h ∈ ln
    · rw [if_pos hl] at hx
      rcases List.mem_append.mp hx with hx | hx
      · exact ⟨(r.rs x hx).1, List.mem_append.mpr (.inl (r.rs x hx).2)⟩
      · have : x = h := by simpa using hx
        subst this
        refine ⟨?_, List.mem_append.mpr (.inr hl)⟩
        obtain ⟨q, e, hq⟩ := k.suc _ hl
        have : Rc (Y.nx F) q x := by
          rcases hq with z | z
          · exact k.tow q z
          · rw [z]; exact Rc.refl _
        obtain ⟨n, hn⟩ := this
        have e1 : it (Y.nx F) 1 x = some q := e
        exact ⟨n, by rw [Nat.add_comm, it_add n 1 e1]; exact hn⟩
    · rw [if_neg hl] at hx
      exact ⟨(r.rs x hx).1, List.mem_append.mpr (.inl (r.rs x hx).2)⟩
  · split
    · rename_i hl
      rw [List.pairwise_append]
      refine ⟨r.sep, by simp, fun a ha x hx => ?_⟩
      have : x = h := by simpa using hx
      subst this
      intro z
      rcases closed (T := fun p => p ∈ Sn ∨ p ∉ keys F) old (.inl (r.rs a ha).2) z with w | w
      · exact hdis _ hl w
      · exact w (k.sd _ hl)
    · exact r.sep
theorem Rn.reps {Sn R : List P} (r : Rn Y F Sn R) (h : ∀ p ∈ keys F, p ∈ Sn) : Reps (Y.nx F) R :=
  ⟨fun x hx => (r.rs x hx).1, fun c hc => r.cov c hc (h c (cyc_in hc)), r.sep⟩
end
end Cb
set_option Elab.async false
set_option linter.all false
set_option maxRecDepth 100000
set_option maxHeartbeats 4000000
namespace Ev
open PySem PySem.Spec PyProof.Rows L2
inductive D where
  | non | bl (b : Bool) | int (i : Int) | str (x : Str) | tup (xs : List D) | fl (xs : List D) | ref (n : Nat)
  deriving Inhabited
inductive O where
  | lst (xs : List D)
  | dtt (fz : Bool) (kvs : List (List Key × D))
noncomputable abbrev Sto := List O
inductive R (α : Type) where
  | ok (a : α) (st : Sto)
  | bad
noncomputable abbrev M (α : Type) := Sto → R α
noncomputable def ret {α : Type} (a : α) : M α := fun st => .ok a st
noncomputable def bnd {α β : Type} (m : M α) (f : α → M β) : M β := fun st => match m st with
  | .ok a st' => f a st'
  | .bad => .bad
noncomputable def stuck {α : Type} : M α := fun _ => .bad
noncomputable def ofO {α : Type} (o : Option α) : M α := fun st => match o with
  | some a => .ok a st
  | none => .bad
noncomputable def items : O → Option (List D)
  | .lst xs => some xs
  | _ => none
inductive Sh where
  | sc (v : V) | t (xs : List D) | l (xs : List D)
noncomputable def shape (st : Sto) : D → Option Sh
  | .non => some (.sc .non)
  | .bl b => some (.sc (.bl b))
  | .int i => some (.sc (.int i))
  | .str x => some (.sc (.str x))
  | .tup xs => some (.t xs)
  | .fl xs => some (.l xs)
  | .ref n => match st[n]? with
    | some (.lst xs) => some (.l xs)
    | _ => none
noncomputable def allEq (f : D → D → Option Bool) : List D → List D → Option Bool
  | [], [] => some true
  | [], _ :: _ => some false
  | _ :: _, [] => some false
  | a :: as, b :: bs => match f a b, allEq f as bs with
    | some x, some y => some (x && y)
    | _, _ => none
noncomputable def eqD (n : Nat) (st : Sto) (a b : D) : Option Bool := match n with
  | 0 => none
  | n + 1 => match shape st a, shape st b with
    | some (.sc x), some (.sc y) => some (eqV x y)
    | some (.t xs), some (.t ys) => allEq (eqD n st) xs ys
    | some (.l xs), some (.l ys) => allEq (eqD n st) xs ys
    | some _, some _ => some false
    | _, _ => none
noncomputable def SqF (K : PySem.W.Frag) (H : Hp) (a : Addr) (xs : List V) : Prop :=
  (∃ o, H a = some (.frz o (.lst xs))) ∨
    ∃ (o : Obj) (its : Array Value) (n : Nat), K.lookup a = some o ∧ o.cls = .type "list" ∧ o.dict = none ∧ o.data = .seq its n ∧ its.size ≤ sizeLine ∧ Vals xs its.toList
theorem SqF.sql {K : PySem.W.Frag} {H : Hp} {a : Addr} {xs : List V} (h : SqF K H a xs) : SqL K H a xs := by
  rcases h with h | h
  · exact .inl (.inr h)
  · exact .inr h
noncomputable def SqU (_ : PySem.W.Frag) (H : Hp) (a : Addr) (xs : List V) : Prop := H a = some (.tup xs)
theorem SqU.t {K : PySem.W.Frag} {H : Hp} {a : Addr} {xs : List V} (h : SqU K H a xs) : SqT K H a xs := SqT.of h
instance {K : PySem.W.Frag} {H : Hp} {a : Addr} {xs : List V} : Coe (SqU K H a xs) (SqT K H a xs) := ⟨SqU.t⟩
mutual
inductive VRel (K : PySem.W.Frag) (H : Hp) (ι : Nat → Addr) (m : Nat) : D → V → Prop where
  | non : VRel K H ι m .non .non
  | bl (b : Bool) : VRel K H ι m (.bl b) (.bl b)
  | int (i : Int) : VRel K H ι m (.int i) (.int i)
  | str (x : Str) : VRel K H ι m (.str x) (.str x)
  | tup {a : Addr} {ds : List D} {xs : List V} (h : SqU K H a xs) (r : VRels K H ι m ds xs) : VRel K H ι m (.tup ds) (.ref a)
  | fl {a : Addr} {ds : List D} {xs : List V} (h : SqF K H a xs) (r : VRels K H ι m ds xs) : VRel K H ι m (.fl ds) (.ref a)
  | ref {n : Nat} (h : n < m) : VRel K H ι m (.ref n) (.ref (ι n))
inductive VRels (K : PySem.W.Frag) (H : Hp) (ι : Nat → Addr) (m : Nat) : List D → List V → Prop where
  | nil : VRels K H ι m [] []
  | cons {d : D} {v : V} {ds : List D} {vs : List V} (h : VRel K H ι m d v) (t : VRels K H ι m ds vs) : VRels K H ι m (d :: ds) (v :: vs)
end
structure ExtW (H H' : Hp) (ι ι' : Nat → Addr) (m m' : Nat) : Prop where
  le : m ≤ m'
  ad : ∀ n, n < m → ι' n = ι n
  tp : ∀ b xs, H b = some (.tup xs) → H' b = some (.tup xs)
  fz : ∀ b o u, H b = some (.frz o u) → (∀ vs, u ≠ .dT vs) → H' b = some (.frz o u)
structure Ext0 (H H' : Hp) (ι ι' : Nat → Addr) (m m' : Nat) : Prop where
  le : m ≤ m'
  ad : ∀ n, n < m → ι' n = ι n
  tp : ∀ b xs, H b = some (.tup xs) → H' b = some (.tup xs)
  fz : ∀ b o u, H b = some (.frz o u) → H' b = some (.frz o u)
theorem Ext0.w {H H' : Hp} {ι ι' : Nat → Addr} {m m' : Nat} (e : Ext0 H H' ι ι' m m') : ExtW H H' ι ι' m m' := ⟨e.le, e.ad, e.tp, fun b o u h _ => e.fz b o u h⟩
structure Ext (H H' : Hp) (ι ι' : Nat → Addr) (m m' : Nat) : Prop extends Ext0 H H' ι ι' m m' where
  fr : ∀ b o, H b = some o → (∀ n, n < m → ι n ≠ b) → H' b = some o ∧ ∀ n, n < m' → ι' n ≠ b
theorem Ext.refl (H : Hp) (ι : Nat → Addr) (m : Nat) : Ext H H ι ι m m := ⟨⟨Nat.le_refl _, fun _ _ => rfl, fun _ _ h => h, fun _ _ _ h => h⟩, fun _ _ h k => ⟨h, k⟩⟩
theorem Ext.trans {H H1 H2 : Hp} {ι ι1 ι2 : Nat → Addr} {m m1 m2 : Nat} (a : Ext H H1 ι ι1 m m1) (b : Ext H1 H2 ι1 ι2 m1 m2) : Ext H H2 ι ι2 m m2 :=
  ⟨⟨Nat.le_trans a.le b.le, fun n hn => (b.ad n (Nat.lt_of_lt_of_le hn a.le)).trans (a.ad n hn), fun c xs e => b.tp c xs (a.tp c xs e), fun c o u e => b.fz c o u (a.fz c o u e)⟩, fun c o e k => by
    obtain ⟨e1, k1⟩ := a.fr c o e k
    exact b.fr c o e1 k1⟩
theorem SqT.extW {K : PySem.W.Frag} {H H' : Hp} {ι ι' : Nat → Addr} {m m' : Nat} {a : Addr} {xs : List V} (e : ExtW H H' ι ι' m m') (h : SqT K H a xs) : SqT K H' a xs := by
  rcases h with (h | ⟨o, h⟩) | h
  · exact .inl (.inl (e.tp _ _ h))
  · exact .inl (.inr ⟨o, e.fz _ _ _ h (fun _ z => nomatch z)⟩)
  · exact .inr h
theorem SqF.extW {K : PySem.W.Frag} {H H' : Hp} {ι ι' : Nat → Addr} {m m' : Nat} {a : Addr} {xs : List V} (e : ExtW H H' ι ι' m m') (h : SqF K H a xs) : SqF K H' a xs := by
  rcases h with ⟨o, h⟩ | h
  · exact .inl ⟨o, e.fz _ _ _ h (fun _ z => nomatch z)⟩
  · exact .inr h
mutual
theorem VRel.extW {K : PySem.W.Frag} {H H' : Hp} {ι ι' : Nat → Addr} {m m' : Nat} (e : ExtW H H' ι ι' m m') : ∀ {d : D} {v : V}, VRel K H ι m d v → VRel K H' ι' m' d v
  | _, _, .non => .non
  | _, _, .bl b => .bl b
  | _, _, .int i => .int i
  | _, _, .str x => .str x
  | _, _, .tup h r => .tup (e.tp _ _ h) (VRels.extW e r)
  | _, _, .fl h r => .fl (SqF.extW e h) (VRels.extW e r)
  | _, _, .ref (n := n) h => by rw [← e.ad n h]; exact .ref (Nat.lt_of_lt_of_le h e.le)
theorem VRels.extW {K : PySem.W.Frag} {H H' : Hp} {ι ι' : Nat → Addr} {m m' : Nat} (e : ExtW H H' ι ι' m m') : ∀ {ds : List D} {vs : List V}, VRels K H ι m ds vs → VRels K H' ι' m' ds vs
  | _, _, .nil => .nil
  | _, _, .cons h t => .cons (VRel.extW e h) (VRels.extW e t)
end
theorem SqT.ext {K : PySem.W.Frag} {H H' : Hp} {ι ι' : Nat → Addr} {m m' : Nat} {a : Addr} {xs : List V} (e : Ext0 H H' ι ι' m m') (h : SqT K H a xs) : SqT K H' a xs := SqT.extW e.w h
theorem SqF.ext {K : PySem.W.Frag} {H H' : Hp} {ι ι' : Nat → Addr} {m m' : Nat} {a : Addr} {xs : List V} (e : Ext0 H H' ι ι' m m') (h : SqF K H a xs) : SqF K H' a xs := SqF.extW e.w h
theorem VRel.ext0 {K : PySem.W.Frag} {H H' : Hp} {ι ι' : Nat → Addr} {m m' : Nat} (e : Ext0 H H' ι ι' m m') {d : D} {v : V} (h : VRel K H ι m d v) : VRel K H' ι' m' d v := VRel.extW e.w h
theorem VRels.ext0 {K : PySem.W.Frag} {H H' : Hp} {ι ι' : Nat → Addr} {m m' : Nat} (e : Ext0 H H' ι ι' m m') {d : List D} {v : List V} (h : VRels K H ι m d v) : VRels K H' ι' m' d v := VRels.extW e.w h
theorem VRel.ext {K : PySem.W.Frag} {H H' : Hp} {ι ι' : Nat → Addr} {m m' : Nat} {d : D} {v : V} (h : VRel K H ι m d v) (e : Ext H H' ι ι' m m') : VRel K H' ι' m' d v := VRel.ext0 e.toExt0 h
theorem VRels.ext {K : PySem.W.Frag} {H H' : Hp} {ι ι' : Nat → Addr} {m m' : Nat} {d : List D} {v : List V} (h : VRels K H ι m d v) (e : Ext H H' ι ι' m m') : VRels K H' ι' m' d v := VRels.ext0 e.toExt0 h
section
variable {K : PySem.W.Frag} {H : Hp} {ι : Nat → Addr} {m : Nat}
theorem VRels.length : ∀ {ds : List D} {vs : List V}, VRels K H ι m ds vs → ds.length = vs.length
  | _, _, .nil => rfl
  | _, _, .cons _ t => by rw [List.length_cons, List.length_cons, t.length]
theorem VRels.get : ∀ {ds : List D} {vs : List V} {i : Nat} {d : D}, VRels K H ι m ds vs → ds[i]? = some d → ∃ v, vs[i]? = some v ∧ VRel K H ι m d v
  | _, _, _, _, .nil, e => by simp at e
  | _, _, 0, _, .cons r _, e => by simp at e; subst e; exact ⟨_, rfl, r⟩
  | _, _, i + 1, d, .cons _ t, e => by
    obtain ⟨v, h1, h2⟩ := t.get (i := i) (d := d) (by simpa using e)
    exact ⟨v, by simpa using h1, h2⟩
theorem VRels.append : ∀ {ds es : List D} {vs ws : List V}, VRels K H ι m ds vs → VRels K H ι m es ws → VRels K H ι m (ds ++ es) (vs ++ ws)
  | _, _, _, _, .nil, s => s
  | _, _, _, _, .cons r t, s => .cons r (t.append s)
theorem VRels.set : ∀ {ds : List D} {vs : List V} {d : D} {v : V} (i : Nat), VRels K H ι m ds vs → VRel K H ι m d v → VRels K H ι m (ds.set i d) (vs.set i v)
  | _, _, _, _, _, .nil, _ => .nil
  | _, _, _, _, 0, .cons _ t, r => .cons r t
  | _, _, _, _, i + 1, .cons q t, r => .cons q (t.set i r)
theorem VRels.take : ∀ {ds : List D} {vs : List V} (n : Nat), VRels K H ι m ds vs → VRels K H ι m (ds.take n) (vs.take n)
  | _, _, 0, _ => .nil
  | _, _, _ + 1, .nil => .nil
  | _, _, n + 1, .cons r t => .cons r (t.take n)
theorem VRels.drop : ∀ {ds : List D} {vs : List V} (n : Nat), VRels K H ι m ds vs → VRels K H ι m (ds.drop n) (vs.drop n)
  | _, _, 0, h => h
  | _, _, _ + 1, .nil => .nil
  | _, _, n + 1, .cons _ t => t.drop n
end
inductive TRels (K : PySem.W.Frag) (H : Hp) (ι : Nat → Addr) (m : Nat) : List (List Key × D) → List (List Key × V) → Prop where
  | nil : TRels K H ι m [] []
  | cons {k : List Key} {d : D} {v : V} {ds : List (List Key × D)} {vs : List (List Key × V)} (h : VRel K H ι m d v) (t : TRels K H ι m ds vs) : TRels K H ι m ((k, d) :: ds) ((k, v) :: vs)
theorem TRels.extW {K : PySem.W.Frag} {H H' : Hp} {ι ι' : Nat → Addr} {m m' : Nat} (e : ExtW H H' ι ι' m m') {ds : List (List Key × D)} {vs : List (List Key × V)} (h : TRels K H ι m ds vs) : TRels K H' ι' m' ds vs := by
  induction h with
  | nil => exact .nil
  | cons h t ih => exact .cons (VRel.extW e h) ih
theorem TRels.length {K : PySem.W.Frag} {H : Hp} {ι : Nat → Addr} {m : Nat} {ds : List (List Key × D)} {vs : List (List Key × V)} (h : TRels K H ι m ds vs) : ds.length = vs.length := by
  induction h with
  | nil => rfl
  | cons h t ih => rw [List.length_cons, List.length_cons, ih]
theorem TRels.append {K : PySem.W.Frag} {H : Hp} {ι : Nat → Addr} {m : Nat} {ds es : List (List Key × D)} {vs ws : List (List Key × V)} (h : TRels K H ι m ds vs) (k : TRels K H ι m es ws) : TRels K H ι m (ds ++ es) (vs ++ ws) := by
  induction h with
  | nil => exact k
  | cons h t ih => exact .cons h ih
noncomputable def ORel (K : PySem.W.Frag) (H : Hp) (ι : Nat → Addr) (m : Nat) (a : Addr) : O → Prop
  | .lst ds => ∃ xs, H a = some (.lst xs) ∧ VRels K H ι m ds xs
  | .dtt fz kvs => ∃ vs, (if fz then ∃ o, H a = some (.frz o (.dT vs)) else H a = some (.dT vs)) ∧ TRels K H ι m kvs vs
theorem ORel.moveW {K : PySem.W.Frag} {H H' : Hp} {ι ι' : Nat → Addr} {m m' : Nat} {a : Addr} {o : O} (h : ORel K H ι m a o) (E : ExtW H H' ι ι' m m') (ha : H' a = H a) : ORel K H' ι' m' a o := by
  cases o with
  | lst ds => obtain ⟨xs, h1, h2⟩ := h; exact ⟨xs, ha.trans h1, VRels.extW E h2⟩
  | dtt fz kvs => obtain ⟨xs, h1, h2⟩ := h; exact ⟨xs, by rw [ha]; exact h1, h2.extW E⟩
theorem ORel.move {K : PySem.W.Frag} {H H' : Hp} {ι ι' : Nat → Addr} {m m' : Nat} {a : Addr} {o : O} (h : ORel K H ι m a o) (E : Ext0 H H' ι ι' m m') (ha : H' a = H a) : ORel K H' ι' m' a o := h.moveW E.w ha
theorem ORel.there {K : PySem.W.Frag} {H : Hp} {ι : Nat → Addr} {m : Nat} {a : Addr} {o : O} (h : ORel K H ι m a o) : ∃ u, H a = some u ∧ (∀ xs, u ≠ .tup xs) ∧ ∀ ob w, u = .frz ob w → ∃ kvs vs, o = .dtt true kvs ∧ w = .dT vs := by
  cases o with
  | lst ds => obtain ⟨xs, h1, h2⟩ := h; exact ⟨_, h1, (fun _ z => by cases z), (fun _ _ z => by cases z)⟩
  | dtt fz kvs =>
    obtain ⟨xs, h1, h2⟩ := h
    cases fz with
    | false => exact ⟨_, h1, (fun _ z => by cases z), (fun _ _ z => by cases z)⟩
    | true =>
      obtain ⟨o, h1⟩ := h1
      exact ⟨_, h1, (fun _ z => by cases z), (fun _ _ z => by cases z; exact ⟨_, _, rfl, rfl⟩)⟩
structure Sim (K : PySem.W.Frag) (H : Hp) (ι : Nat → Addr) (st : Sto) : Prop where
  inj : ∀ i j, i < st.length → j < st.length → ι i = ι j → i = j
  ob : ∀ n o, st[n]? = some o → ORel K H ι st.length (ι n) o
theorem Sim.laid {K : PySem.W.Frag} {H : Hp} {ι : Nat → Addr} {st : Sto} (S : Sim K H ι st) {p : Addr} (hp : H p = none) {ho : HO} {o : O}
    (hr : ∀ ι', (∀ n, n < st.length → ι' n = ι n) → ι' st.length = p → ORel K (upd H p ho) ι' (st.length + 1) p o) :
    ∃ ι', Ext H (upd H p ho) ι ι' st.length (st.length + 1) ∧ ι' st.length = p ∧ Sim K (upd H p ho) ι' (st ++ [o]) := by
  have hK : ∀ n o, st[n]? = some o → ι n ≠ p := fun n o e => by
    have q := S.ob n o e
    obtain ⟨u, h1, _⟩ := q.there
    exact ne_of_none h1 hp
  have E : Ext H (upd H p ho) ι (fun n => if n = st.length then p else ι n) st.length (st.length + 1) := ⟨⟨Nat.le_succ _, fun n hn => by simp [Nat.ne_of_lt hn], fun b xs e => by rw [upd_ne (ne_of_none e hp)]; exact e, fun b ob u e => by rw [upd_ne (ne_of_none e hp)]; exact e⟩, fun b ob e k => by
    refine ⟨by rw [upd_ne (ne_of_none e hp)]; exact e, fun n hn => ?_⟩
    by_cases hn' : n = st.length
    · rw [if_pos hn']; exact (ne_of_none e hp).symm
    · rw [if_neg hn']; exact k n (by omega)⟩
  refine ⟨fun n => if n = st.length then p else ι n, E, by simp, ?_⟩
  have lt : ∀ {n}, n < st.length → ∃ o, st[n]? = some o := fun {n} hn => ⟨st[n], by simp [hn]⟩
  refine ⟨fun i j hi hj e => ?_, fun n ob e => ?_⟩
  · rw [List.length_append, List.length_singleton] at hi hj
    by_cases hi' : i = st.length
    · by_cases hj' : j = st.length
      · omega
      · have q : p = ι j := by simpa [hi', hj'] using e
        obtain ⟨ob, eo⟩ := lt (show j < st.length by omega)
        exact absurd q.symm (hK j ob eo)
    · by_cases hj' : j = st.length
      · have q : ι i = p := by simpa [hi', hj'] using e
        obtain ⟨ob, eo⟩ := lt (show i < st.length by omega)
        exact absurd q (hK i ob eo)
      · exact S.inj i j (by omega) (by omega) (by simpa [hi', hj'] using e)
  · rw [List.length_append, List.length_singleton]
    by_cases hn : n = st.length
    · subst hn
      rw [List.getElem?_append_right (Nat.le_refl _), Nat.sub_self] at e
      have e' : o = ob := by simpa using e
      subst e'
      have := hr (fun n => if n = st.length then p else ι n) (fun n hn => by simp [Nat.ne_of_lt hn]) (by simp)
      simpa using this
    · have hlt : n < st.length := by
        have := (List.getElem?_eq_some_iff.mp e).1
        rw [List.length_append, List.length_singleton] at this
        omega
      rw [List.getElem?_append_left hlt] at e
      have old := S.ob n ob e
      have hne : ι n ≠ p := hK n ob e
      have hι : (if n = st.length then p else ι n) = ι n := by rw [if_neg hn]
      rw [hι]
      exact old.move E.toExt0 (upd_ne hne)
theorem Sim.write {K : PySem.W.Frag} {H : Hp} {ι : Nat → Addr} {st : Sto} (S : Sim K H ι st) {n : Nat} {ds es : List D} {ys : List V} (e : st[n]? = some (.lst ds)) (r : VRels K H ι st.length es ys) :
    Ext H (upd H (ι n) (.lst ys)) ι ι st.length st.length ∧ Sim K (upd H (ι n) (.lst ys)) ι (st.set n (.lst es)) := by
  obtain ⟨xs, h1, h2⟩ := S.ob n _ e
  have hn : n < st.length := (List.getElem?_eq_some_iff.mp e).1
  have E : Ext H (upd H (ι n) (.lst ys)) ι ι st.length st.length := by
    refine ⟨⟨Nat.le_refl _, fun _ _ => rfl, fun b zs q => ?_, fun b o u q => ?_⟩, fun b o q k => ⟨by rw [upd_ne (k n hn).symm]; exact q, k⟩⟩
    · rw [upd_ne (ne_of q h1 (by intro z; cases z))]; exact q
    · rw [upd_ne (ne_of q h1 (by intro z; cases z))]; exact q
  refine ⟨E, fun i j hi hj => S.inj i j (by simpa using hi) (by simpa using hj), fun k o q => ?_⟩
  rw [List.length_set]
  by_cases hk : k = n
  · subst hk
    rw [List.getElem?_set_self hn] at q
    cases q
    exact ⟨ys, upd_same, r.ext E⟩
  · rw [List.getElem?_set_ne (Ne.symm hk)] at q
    have hk' : k < st.length := (List.getElem?_eq_some_iff.mp q).1
    have hne : ι k ≠ ι n := fun z => hk (S.inj k n hk' hn z)
    have old := S.ob k o q
    exact old.move E.toExt0 (upd_ne hne)
theorem Sim.add {K : PySem.W.Frag} {H : Hp} {ι : Nat → Addr} {st : Sto} (S : Sim K H ι st) {p : Addr} {ys : List V} {ds : List D} (hp : H p = some (.lst ys)) (ap : ∀ n, n < st.length → ι n ≠ p) (r : VRels K H ι st.length ds ys) :
    ∃ ι', (∀ n, n < st.length → ι' n = ι n) ∧ ι' st.length = p ∧ Sim K H ι' (st ++ [.lst ds]) := by
  have up : Ext0 H H ι (fun n => if n = st.length then p else ι n) st.length (st.length + 1) := ⟨Nat.le_succ _, fun n hn => by simp [Nat.ne_of_lt hn], fun _ _ e => e, fun _ _ _ e => e⟩
  refine ⟨fun n => if n = st.length then p else ι n, fun n hn => by simp [Nat.ne_of_lt hn], by simp, ⟨fun i j hi hj e => ?_, fun n ob e => ?_⟩⟩
  · rw [List.length_append, List.length_singleton] at hi hj
    by_cases hi' : i = st.length
    · by_cases hj' : j = st.length
      · omega
      · exact absurd (show ι j = p by simpa [hi', hj'] using e.symm) (ap j (by omega))
    · by_cases hj' : j = st.length
      · exact absurd (show ι i = p by simpa [hi', hj'] using e) (ap i (by omega))
      · exact S.inj i j (by omega) (by omega) (by simpa [hi', hj'] using e)
  · rw [List.length_append, List.length_singleton]
    by_cases hn : n = st.length
    · subst hn
      rw [List.getElem?_append_right (Nat.le_refl _), Nat.sub_self] at e
      have e' : O.lst ds = ob := by simpa using e
      subst e'
      refine ⟨ys, ?_, VRels.ext0 up r⟩
      simpa using hp
    · have hlt : n < st.length := by
        have := (List.getElem?_eq_some_iff.mp e).1
        rw [List.length_append, List.length_singleton] at this
        omega
      rw [List.getElem?_append_left hlt] at e
      have old := S.ob n ob e
      have hι : (if n = st.length then p else ι n) = ι n := by rw [if_neg hn]
      rw [hι]
      exact old.move up rfl
theorem Sim.writeT {K : PySem.W.Frag} {H : Hp} {ι : Nat → Addr} {st : Sto} (S : Sim K H ι st) {n : Nat} {fz : Bool} {kvs kvs' : List (List Key × D)} {ho : HO} {vs : List (List Key × V)} (e : st[n]? = some (.dtt false kvs))
    (h : if fz then ∃ o, ho = .frz o (.dT vs) else ho = .dT vs) (r : TRels K H ι st.length kvs' vs) : Ext H (upd H (ι n) ho) ι ι st.length st.length ∧ Sim K (upd H (ι n) ho) ι (st.set n (.dtt fz kvs')) := by
  obtain ⟨xs, h1, h2⟩ := S.ob n _ e
  have h1 : H (ι n) = some (.dT xs) := h1
  have hn : n < st.length := (List.getElem?_eq_some_iff.mp e).1
  have E : Ext H (upd H (ι n) ho) ι ι st.length st.length := by
    refine ⟨⟨Nat.le_refl _, fun _ _ => rfl, fun b zs q => ?_, fun b o u q => ?_⟩, fun b o q k => ⟨by rw [upd_ne (k n hn).symm]; exact q, k⟩⟩
    · rw [upd_ne (ne_of q h1 (by intro z; cases z))]; exact q
    · rw [upd_ne (ne_of q h1 (by intro z; cases z))]; exact q
  refine ⟨E, fun i j hi hj => S.inj i j (by simpa using hi) (by simpa using hj), fun k o q => ?_⟩
  rw [List.length_set]
  by_cases hk : k = n
  · subst hk
    rw [List.getElem?_set_self hn] at q
    cases q
    refine ⟨vs, ?_, r.extW E.toExt0.w⟩
    cases fz with
    | false => rw [if_neg (by decide)] at h ⊢; rw [upd_same, h]
    | true => rw [if_pos rfl] at h ⊢; obtain ⟨o, h⟩ := h; exact ⟨o, by rw [upd_same, h]⟩
  · rw [List.getElem?_set_ne (Ne.symm hk)] at q
    have hk' : k < st.length := (List.getElem?_eq_some_iff.mp q).1
    exact (S.ob k o q).move E.toExt0 (upd_ne fun z => hk (S.inj k n hk' hn z))
theorem Sim.thaw {K : PySem.W.Frag} {H : Hp} {ι : Nat → Addr} {st : Sto} (S : Sim K H ι st) {n : Nat} {kvs : List (List Key × D)} {ob : Obj} {vs : List (List Key × V)} (e : st[n]? = some (.dtt true kvs)) (h : H (ι n) = some (.frz ob (.dT vs))) :
    ExtW H (upd H (ι n) (.dT vs)) ι ι st.length st.length ∧ Sim K (upd H (ι n) (.dT vs)) ι (st.set n (.dtt false kvs)) := by
  obtain ⟨xs, ⟨o1, h1⟩, h2⟩ := S.ob n _ e
  rw [h] at h1
  cases h1
  have hn : n < st.length := (List.getElem?_eq_some_iff.mp e).1
  have E : ExtW H (upd H (ι n) (.dT vs)) ι ι st.length st.length := by
    refine ⟨Nat.le_refl _, fun _ _ => rfl, fun b zs q => ?_, fun b o u q hu => ?_⟩
    · rw [upd_ne (ne_of q h (by intro z; cases z))]; exact q
    · rw [upd_ne (ne_of q h (by intro z; cases z; exact hu _ rfl))]; exact q
  refine ⟨E, fun i j hi hj => S.inj i j (by simpa using hi) (by simpa using hj), fun k o q => ?_⟩
  rw [List.length_set]
  by_cases hk : k = n
  · subst hk
    rw [List.getElem?_set_self hn] at q
    cases q
    exact ⟨vs, upd_same, h2.extW E⟩
  · rw [List.getElem?_set_ne (Ne.symm hk)] at q
    have hk' : k < st.length := (List.getElem?_eq_some_iff.mp q).1
    exact (S.ob k o q).moveW E (upd_ne fun z => hk (S.inj k n hk' hn z))
end Ev
set_option Elab.async false
set_option linter.all false
set_option maxRecDepth 100000
set_option maxHeartbeats 4000000
namespace Ev
open PySem PySem.Spec PyProof.Rows L2
noncomputable def CXe (_ : Program) (_ : World) : CXT := fun _ _ _ _ _ _ => False
theorem passE {P : Program} {w : World} {X : Cx} : Passes (CXe P w) X E0 := fun _ _ _ _ _ _ _ z => z.elim
noncomputable abbrev NoEx : Addr → L2.St → Hp → Prop := fun _ _ _ => False
end Ev
set_option Elab.async false
set_option linter.all false
set_option maxRecDepth 100000
set_option maxHeartbeats 4000000
namespace Ev
open PySem PySem.Spec PyProof.Rows L2
open PySem.SeqAt
theorem RcAt_V {A : Around} {s : Shared} {y x : V} {u v : Value} (ry : RelV y u) (rx : RelV x v) (fy : flatV y = true) (fx : flatV x = true) : RcAt A s u v (eqV y x) := by
  cases y with
  | non =>
    cases ry
    cases x with
    | non => cases rx; exact RcAt.none_none
    | bl b => cases rx; exact RcAt.none_bool  b
    | int b => obtain ⟨tb, rfl⟩ := rx; exact RcAt.none_int  b tb
    | str b => obtain ⟨tb, rfl⟩ := rx; exact RcAt.none_str  b tb
    | _ => exact absurd (show false = true from fx) Bool.false_ne_true
  | bl a =>
    cases ry
    cases x with
    | non => cases rx; exact RcAt.bool_none a
    | bl b => cases rx; exact RcAt.bool_bool a b
    | int b => obtain ⟨tb, rfl⟩ := rx; exact RcAt.bool_int a b tb
    | str b => obtain ⟨tb, rfl⟩ := rx; exact RcAt.bool_str a b tb
    | _ => exact absurd (show false = true from fx) Bool.false_ne_true
  | int a =>
    obtain ⟨ta, rfl⟩ := ry
    cases x with
    | non => cases rx; exact RcAt.int_none a ta
    | bl b => cases rx; exact RcAt.int_bool a ta b
    | int b => obtain ⟨tb, rfl⟩ := rx; exact RcAt.int_int a ta b tb
    | str b => obtain ⟨tb, rfl⟩ := rx; exact RcAt.int_str a ta b tb
    | _ => exact absurd (show false = true from fx) Bool.false_ne_true
  | str a =>
    obtain ⟨ta, rfl⟩ := ry
    cases x with
    | non => cases rx; exact RcAt.str_none a ta
    | bl b => cases rx; exact RcAt.str_bool a ta b
    | int b => obtain ⟨tb, rfl⟩ := rx; exact RcAt.str_int a ta b tb
    | str b => obtain ⟨tb, rfl⟩ := rx; exact RcAt.str_str a ta b tb
    | _ => exact absurd (show false = true from fx) Bool.false_ne_true
  | _ => exact absurd (show false = true from fy) Bool.false_ne_true
theorem RcNeAt_V {A : Around} {s : Shared} {y x : V} {u v : Value} (ry : RelV y u) (rx : RelV x v) (fy : flatV y = true) (fx : flatV x = true) : RcNeAt A s u v (!eqV y x) := by
  cases y with
  | non =>
    cases ry
    cases x with
    | non => cases rx; exact RcNeAt.none_none
    | bl b => cases rx; exact RcNeAt.none_bool  b
    | int b => obtain ⟨tb, rfl⟩ := rx; exact RcNeAt.none_int  b tb
    | str b => obtain ⟨tb, rfl⟩ := rx; exact RcNeAt.none_str  b tb
    | _ => exact absurd (show false = true from fx) Bool.false_ne_true
  | bl a =>
    cases ry
    cases x with
    | non => cases rx; exact RcNeAt.bool_none a
    | bl b => cases rx; exact RcNeAt.bool_bool a b
    | int b => obtain ⟨tb, rfl⟩ := rx; exact RcNeAt.bool_int a b tb
    | str b => obtain ⟨tb, rfl⟩ := rx; exact RcNeAt.bool_str a b tb
    | _ => exact absurd (show false = true from fx) Bool.false_ne_true
  | int a =>
    obtain ⟨ta, rfl⟩ := ry
    cases x with
    | non => cases rx; exact RcNeAt.int_none a ta
    | bl b => cases rx; exact RcNeAt.int_bool a ta b
    | int b => obtain ⟨tb, rfl⟩ := rx; exact RcNeAt.int_int a ta b tb
    | str b => obtain ⟨tb, rfl⟩ := rx; exact RcNeAt.int_str a ta b tb
    | _ => exact absurd (show false = true from fx) Bool.false_ne_true
  | str a =>
    obtain ⟨ta, rfl⟩ := ry
    cases x with
    | non => cases rx; exact RcNeAt.str_none a ta
    | bl b => cases rx; exact RcNeAt.str_bool a ta b
    | int b => obtain ⟨tb, rfl⟩ := rx; exact RcNeAt.str_int a ta b tb
    | str b => obtain ⟨tb, rfl⟩ := rx; exact RcNeAt.str_str a ta b tb
    | _ => exact absurd (show false = true from fx) Bool.false_ne_true
  | _ => exact absurd (show false = true from fy) Bool.false_ne_true
theorem RcAt_listV {A : Around} {s : Shared} {l : Addr} {items : Array Value} (hl : s.heap.IsList l items) (hu : A.units < cLine) {x : V} {v : Value} (rx : RelV x v) (fx : flatV x = true) : RcAt A s (.ref l) v false := by
  cases x with
  | non => cases rx; exact RcAt.list_none  hl hu
  | bl b => cases rx; exact RcAt.list_bool b hl hu
  | int b => obtain ⟨tb, rfl⟩ := rx; exact RcAt.list_int b tb hl hu
  | str b => obtain ⟨tb, rfl⟩ := rx; exact RcAt.list_str b tb hl hu
  | _ => exact absurd (show false = true from fx) Bool.false_ne_true
theorem RcAt_Vlist {A : Around} {s : Shared} {l : Addr} {items : Array Value} (hl : s.heap.IsList l items) (hu : A.units < cLine) {x : V} {v : Value} (rx : RelV x v) (fx : flatV x = true) : RcAt A s v (.ref l) false := by
  cases x with
  | non => cases rx; exact RcAt.none_list  hl hu
  | bl b => cases rx; exact RcAt.bool_list b hl hu
  | int b => obtain ⟨tb, rfl⟩ := rx; exact RcAt.int_list b tb hl hu
  | str b => obtain ⟨tb, rfl⟩ := rx; exact RcAt.str_list b tb hl hu
  | _ => exact absurd (show false = true from fx) Bool.false_ne_true
theorem RcNeAt_listV {A : Around} {s : Shared} {l : Addr} {items : Array Value} (hl : s.heap.IsList l items) (hu : A.units < cLine) {x : V} {v : Value} (rx : RelV x v) (fx : flatV x = true) : RcNeAt A s (.ref l) v true := by
  cases x with
  | non => cases rx; exact RcNeAt.list_none  hl hu
  | bl b => cases rx; exact RcNeAt.list_bool b hl hu
  | int b => obtain ⟨tb, rfl⟩ := rx; exact RcNeAt.list_int b tb hl hu
  | str b => obtain ⟨tb, rfl⟩ := rx; exact RcNeAt.list_str b tb hl hu
  | _ => exact absurd (show false = true from fx) Bool.false_ne_true
theorem RcNeAt_Vlist {A : Around} {s : Shared} {l : Addr} {items : Array Value} (hl : s.heap.IsList l items) (hu : A.units < cLine) {x : V} {v : Value} (rx : RelV x v) (fx : flatV x = true) : RcNeAt A s v (.ref l) true := by
  cases x with
  | non => cases rx; exact RcNeAt.none_list  hl hu
  | bl b => cases rx; exact RcNeAt.bool_list b hl hu
  | int b => obtain ⟨tb, rfl⟩ := rx; exact RcNeAt.int_list b tb hl hu
  | str b => obtain ⟨tb, rfl⟩ := rx; exact RcNeAt.str_list b tb hl hu
  | _ => exact absurd (show false = true from fx) Bool.false_ne_true
theorem RcAt_tupleV {A : Around} {s : Shared} {l : Addr} {items : Array Value} (hl : s.heap.IsTuple l items) (hu : A.units < cLine) {x : V} {v : Value} (rx : RelV x v) (fx : flatV x = true) : RcAt A s (.ref l) v false := by
  cases x with
  | non => cases rx; exact RcAt.tuple_none  hl hu
  | bl b => cases rx; exact RcAt.tuple_bool b hl hu
  | int b => obtain ⟨tb, rfl⟩ := rx; exact RcAt.tuple_int b tb hl hu
  | str b => obtain ⟨tb, rfl⟩ := rx; exact RcAt.tuple_str b tb hl hu
  | _ => exact absurd (show false = true from fx) Bool.false_ne_true
theorem RcAt_Vtuple {A : Around} {s : Shared} {l : Addr} {items : Array Value} (hl : s.heap.IsTuple l items) (hu : A.units < cLine) {x : V} {v : Value} (rx : RelV x v) (fx : flatV x = true) : RcAt A s v (.ref l) false := by
  cases x with
  | non => cases rx; exact RcAt.none_tuple  hl hu
  | bl b => cases rx; exact RcAt.bool_tuple b hl hu
  | int b => obtain ⟨tb, rfl⟩ := rx; exact RcAt.int_tuple b tb hl hu
  | str b => obtain ⟨tb, rfl⟩ := rx; exact RcAt.str_tuple b tb hl hu
  | _ => exact absurd (show false = true from fx) Bool.false_ne_true
theorem RcNeAt_tupleV {A : Around} {s : Shared} {l : Addr} {items : Array Value} (hl : s.heap.IsTuple l items) (hu : A.units < cLine) {x : V} {v : Value} (rx : RelV x v) (fx : flatV x = true) : RcNeAt A s (.ref l) v true := by
  cases x with
  | non => cases rx; exact RcNeAt.tuple_none  hl hu
  | bl b => cases rx; exact RcNeAt.tuple_bool b hl hu
  | int b => obtain ⟨tb, rfl⟩ := rx; exact RcNeAt.tuple_int b tb hl hu
  | str b => obtain ⟨tb, rfl⟩ := rx; exact RcNeAt.tuple_str b tb hl hu
  | _ => exact absurd (show false = true from fx) Bool.false_ne_true
theorem RcNeAt_Vtuple {A : Around} {s : Shared} {l : Addr} {items : Array Value} (hl : s.heap.IsTuple l items) (hu : A.units < cLine) {x : V} {v : Value} (rx : RelV x v) (fx : flatV x = true) : RcNeAt A s v (.ref l) true := by
  cases x with
  | non => cases rx; exact RcNeAt.none_tuple  hl hu
  | bl b => cases rx; exact RcNeAt.bool_tuple b hl hu
  | int b => obtain ⟨tb, rfl⟩ := rx; exact RcNeAt.int_tuple b tb hl hu
  | str b => obtain ⟨tb, rfl⟩ := rx; exact RcNeAt.str_tuple b tb hl hu
  | _ => exact absurd (show false = true from fx) Bool.false_ne_true
theorem EqAt_refL {A : Around} {s : Shared} {l : Addr} {b : Value} {k : Bool} (hne : (Value.ref l == b) = false) (h : RcAt A s (.ref l) b k) : EqAt A s (.ref l) b k := fun prog w E Q hq => by
  unfold eqBool
  refine wpAny_holding ?_
  refine wpAny_ite_split (fun hab => absurd hab (by rw [hne]; exact Bool.false_ne_true)) (fun _ => ?_)
  exact wpAny_bind (h prog w E _ (wpAny_truthy_bool hq))
theorem EqAt_refR {A : Around} {s : Shared} {l : Addr} {a : Value} {k : Bool} (hne : (a == Value.ref l) = false) (h : RcAt A s a (.ref l) k) : EqAt A s a (.ref l) k := fun prog w E Q hq => by
  unfold eqBool
  refine wpAny_holding ?_
  refine wpAny_ite_split (fun hab => absurd hab (by rw [hne]; exact Bool.false_ne_true)) (fun _ => ?_)
  cases a <;> exact wpAny_bind (h prog w E _ (wpAny_truthy_bool hq))
noncomputable def At (K : PySem.W.Frag) (H : Hp) (ι : Nat → Addr) (m : Nat) (d : D) (u : Value) : Prop := ∃ v, VRel K H ι m d v ∧ RelV v u
noncomputable def Ats (K : PySem.W.Frag) (H : Hp) (ι : Nat → Addr) (m : Nat) (ds : List D) (us : List Value) : Prop := ∃ vs, VRels K H ι m ds vs ∧ Vals vs us
theorem Ats.length {K : PySem.W.Frag} {H : Hp} {ι : Nat → Addr} {m : Nat} {ds : List D} {us : List Value} (h : Ats K H ι m ds us) : ds.length = us.length := by
  obtain ⟨vs, a, b⟩ := h
  rw [a.length, b.length]
inductive ShAt (K : PySem.W.Frag) (H : Hp) (ι : Nat → Addr) (m : Nat) (s : Shared) : Sh → Value → Prop where
  | sc {v : V} {u : Value} (f : flatV v = true) (r : RelV v u) : ShAt K H ι m s (.sc v) u
  | t {a : Addr} {xs : List D} {its : Array Value} (h : s.heap.IsTuple a its) (r : Ats K H ι m xs its.toList) : ShAt K H ι m s (.t xs) (.ref a)
  | l {a : Addr} {xs : List D} {its : Array Value} (h : s.heap.IsList a its) (r : Ats K H ι m xs its.toList) : ShAt K H ι m s (.l xs) (.ref a)
theorem shape_at {X : Cx} {pins : List (Addr × Obj)} {σ : L2.St} {H : Hp} {s : Shared} {ι : Nat → Addr} {st : Sto} {d : D} {u : Value} {sh : Sh} (I : Inv X pins σ H s) (S : Sim X.K H ι st) (h : At X.K H ι st.length d u) (e : shape st d = some sh) :
    ShAt X.K H ι st.length s sh u := by
  obtain ⟨v, hv, r⟩ := h
  cases hv with
  | non => cases e; exact .sc rfl r
  | bl b => cases e; exact .sc rfl r
  | int i => cases e; exact .sc rfl r
  | str x => cases e; exact .sc rfl r
  | tup h hr =>
    cases e; cases r
    obtain ⟨its, rv, p, _⟩ := I.tuple h.t
    exact .t p ⟨_, hr, by simpa using rv⟩
  | fl h hr =>
    cases e; cases r
    obtain ⟨its, rv, p, _⟩ := I.list h.sql
    exact .l p.isList ⟨_, hr, by simpa using rv⟩
  | @ref n hn =>
    cases r
    simp only [shape] at e
    cases q : st[n]? with
    | none => rw [q] at e; cases e
    | some o =>
      rw [q] at e
      have ho := S.ob n o q
      cases o with
      | lst xs =>
        cases e
        obtain ⟨vs, h1, h2⟩ := ho
        obtain ⟨its, rv, p, _⟩ := I.list (SqL.of h1)
        exact .l p.isList ⟨_, h2, by simpa using rv⟩
      | dtt _ _ => cases e
theorem all_cons {e : Nat → Bool} {x : Bool} {n : Nat} : (List.range (n + 1)).all (fun j => match j with | 0 => x | j + 1 => e j) = (x && (List.range n).all e) := by
  rw [List.range_succ_eq_map, List.all_cons, List.all_map]
  rfl
theorem known_free {X : Cx} {pins : List (Addr × Obj)} {σ : L2.St} {H : Hp} {s : Shared} {a : Addr} {o : Obj} (I : Inv X pins σ H s) (h : X.K.lookup a = some o) : H a = none := (I.bs a o (I.ok.mod.kin a o h)).2
theorem seq_ne {X : Cx} {pins : List (Addr × Obj)} {σ : L2.St} {H : Hp} {s : Shared} {a : Addr} {xs ys : List V} (I : Inv X pins σ H s) (h : SqT X.K H a xs) (h' : SqL X.K H a ys) : False := by
  obtain ⟨_, _, p, _⟩ := I.tuple h
  obtain ⟨_, _, q, _⟩ := I.list h'
  exact ne_of_list_tuple q.isList p rfl
theorem tup_obj {X : Cx} {pins : List (Addr × Obj)} {σ : L2.St} {H : Hp} {s : Shared} {a : Addr} {xs : List V} (I : Inv X pins σ H s) (h : SqT X.K H a xs) : (∃ zs, H a = some (.tup zs)) ∨ (∃ o u, H a = some (.frz o (.tup u))) ∨ H a = none := by
  rcases h with (h | ⟨o, h⟩) | ⟨o, _, _, h, _⟩
  · exact .inl ⟨_, h⟩
  · exact .inr (.inl ⟨_, _, h⟩)
  · exact .inr (.inr (known_free I h))
theorem fl_obj {X : Cx} {pins : List (Addr × Obj)} {σ : L2.St} {H : Hp} {s : Shared} {a : Addr} {xs : List V} (I : Inv X pins σ H s) (h : SqF X.K H a xs) : (∃ o u, H a = some (.frz o (.lst u))) ∨ H a = none := by
  rcases h with ⟨o, h⟩ | ⟨o, _, _, h, _⟩
  · exact .inl ⟨_, _, h⟩
  · exact .inr (known_free I h)
theorem Sim.obj {K : PySem.W.Frag} {H : Hp} {ι : Nat → Addr} {st : Sto} (S : Sim K H ι st) {n : Nat} (h : n < st.length) : ∃ u, H (ι n) = some u ∧ (∀ xs, u ≠ .tup xs) ∧ ∀ ob w, u = .frz ob w → ∃ vs, w = .dT vs := by
  obtain ⟨u, h1, h2, h3⟩ := (S.ob n st[n] (by simp [h])).there
  exact ⟨u, h1, h2, fun ob w e => let ⟨_, vs, _, q⟩ := h3 ob w e; ⟨vs, q⟩⟩
mutual
theorem VRel.uniq {X : Cx} {pins : List (Addr × Obj)} {σ : L2.St} {H : Hp} {s : Shared} {ι : Nat → Addr} {st : Sto} (I : Inv X pins σ H s) (S : Sim X.K H ι st) : ∀ {d d' : D} {v : V}, VRel X.K H ι st.length d v → VRel X.K H ι st.length d' v → d = d'
  | _, _, _, .non, h => by cases h; rfl
  | _, _, _, .bl b, h => by cases h; rfl
  | _, _, _, .int i, h => by cases h; rfl
  | _, _, _, .str x, h => by cases h; rfl
  | _, _, _, .tup h r, h' => by
    cases h' with
    | tup q r' => rw [I.tuple_inj h.t q.t] at r; rw [VRels.uniq I S r r']
    | fl q _ => exact (seq_ne I h.t q.sql).elim
    | ref q =>
      obtain ⟨u, e', n1, n2⟩ := S.obj q; rcases tup_obj I h.t with ⟨_, e⟩ | ⟨_, _, e⟩ | e <;> rw [e] at e' <;> first | (cases e'; done) | (cases e'; exact absurd rfl (n1 _)) | (cases e'; obtain ⟨_, z⟩ := n2 _ _ rfl; cases z)
  | _, _, _, .fl h r, h' => by
    cases h' with
    | tup q _ => exact (seq_ne I q.t h.sql).elim
    | fl q r' => rw [I.list_inj h.sql q.sql] at r; rw [VRels.uniq I S r r']
    | ref q =>
      obtain ⟨u, e', n1, n2⟩ := S.obj q; rcases fl_obj I h with ⟨_, _, e⟩ | e <;> rw [e] at e' <;> first | (cases e'; done) | (cases e'; exact absurd rfl (n1 _)) | (cases e'; obtain ⟨_, z⟩ := n2 _ _ rfl; cases z)
  | _, _, _, .ref (n := n) q, h' => by
    generalize hz : V.ref (ι n) = z at h'
    cases h' with
    | tup h _ =>
      injection hz with hz
      rw [← hz] at h
      obtain ⟨u, e', n1, n2⟩ := S.obj q; rcases tup_obj I h.t with ⟨_, e⟩ | ⟨_, _, e⟩ | e <;> rw [e] at e' <;> first | (cases e'; done) | (cases e'; exact absurd rfl (n1 _)) | (cases e'; obtain ⟨_, z⟩ := n2 _ _ rfl; cases z)
    | fl h _ =>
      injection hz with hz
      rw [← hz] at h
      obtain ⟨u, e', n1, n2⟩ := S.obj q; rcases fl_obj I h with ⟨_, _, e⟩ | e <;> rw [e] at e' <;> first | (cases e'; done) | (cases e'; exact absurd rfl (n1 _)) | (cases e'; obtain ⟨_, z⟩ := n2 _ _ rfl; cases z)
    | ref q' => injection hz with hz; rw [S.inj _ _ q q' hz]
    | _ => cases hz
theorem VRels.uniq {X : Cx} {pins : List (Addr × Obj)} {σ : L2.St} {H : Hp} {s : Shared} {ι : Nat → Addr} {st : Sto} (I : Inv X pins σ H s) (S : Sim X.K H ι st) : ∀ {ds ds' : List D} {vs : List V}, VRels X.K H ι st.length ds vs → VRels X.K H ι st.length ds' vs → ds = ds'
  | _, _, _, .nil, h => by cases h; rfl
  | _, _, _, .cons r t, h => by
    cases h with
    | cons r' t' => rw [VRel.uniq I S r r', VRels.uniq I S t t']
end
theorem At.uniq {X : Cx} {pins : List (Addr × Obj)} {σ : L2.St} {H : Hp} {s : Shared} {ι : Nat → Addr} {st : Sto} {a b : D} {u : Value} (I : Inv X pins σ H s) (S : Sim X.K H ι st) (ha : At X.K H ι st.length a u) (hb : At X.K H ι st.length b u) : a = b := by
  obtain ⟨v, h1, r1⟩ := ha
  obtain ⟨w, h2, r2⟩ := hb
  rw [r1.inj r2] at h1
  exact h1.uniq I S h2
theorem eqV_refl {v : V} (h : flatV v = true) : eqV v v = true := by cases v <;> simp_all [eqV, flatV]
theorem shape_flat {st : Sto} {d : D} {v : V} (h : shape st d = some (.sc v)) : flatV v = true := by
  cases d with
  | ref n => simp only [shape] at h; split at h <;> cases h
  | _ => cases h <;> rfl
theorem allEq_refl {f : D → D → Option Bool} (hf : ∀ x k, f x x = some k → k = true) : ∀ {xs : List D} {k : Bool}, allEq f xs xs = some k → k = true
  | [], k, e => (Option.some.inj e).symm
  | x :: xs, k, e => by
    unfold allEq at e
    cases e1 : f x x with
    | none => rw [e1] at e; simp at e
    | some p =>
      cases e2 : allEq f xs xs with
      | none => rw [e1, e2] at e; simp at e
      | some q =>
        rw [e1, e2] at e
        have e' : (p && q) = k := Option.some.inj e
        rw [← e', hf _ _ e1, allEq_refl hf e2]; rfl
theorem eqD_refl {st : Sto} : ∀ (n : Nat) {a : D} {k : Bool}, eqD n st a a = some k → k = true
  | 0, _, _, e => by unfold eqD at e; cases e
  | n + 1, a, k, e => by
    unfold eqD at e
    cases ea : shape st a with
    | none => rw [ea] at e; simp at e
    | some sa =>
      rw [ea] at e
      cases sa with
      | sc v => have e' : eqV v v = k := Option.some.inj e; rw [← e', eqV_refl (shape_flat ea)]
      | t xs => exact allEq_refl (fun _ _ => eqD_refl n) e
      | l xs => exact allEq_refl (fun _ _ => eqD_refl n) e
theorem flat_ne {A : Around} {s : Shared} {y : V} {u : Value} {l : Addr} (ry : RelV y u) (fy : flatV y = true) : (u == Value.ref l) = false := by
  cases y with
  | non => cases ry; rfl
  | bl b => cases ry; rfl
  | int i => obtain ⟨t, rfl⟩ := ry; rfl
  | str i => obtain ⟨t, rfl⟩ := ry; rfl
  | _ => cases fy
theorem ne_flat {A : Around} {s : Shared} {y : V} {u : Value} {l : Addr} (ry : RelV y u) (fy : flatV y = true) : (Value.ref l == u) = false := by
  cases y with
  | non => cases ry; rfl
  | bl b => cases ry; rfl
  | int i => obtain ⟨t, rfl⟩ := ry; rfl
  | str i => obtain ⟨t, rfl⟩ := ry; rfl
  | _ => cases fy
theorem eqAt_Ds {X : Cx} {pins : List (Addr × Obj)} {σ : L2.St} {H : Hp} {s : Shared} {ι : Nat → Addr} {st : Sto} (I : Inv X pins σ H s) (S : Sim X.K H ι st) {n : Nat}
    (ih : ∀ {a b : D} {u v : Value} {A : Around} {k : Bool}, eqD n st a b = some k → At X.K H ι st.length a u → At X.K H ι st.length b v → A.units + n < cLine → EqAt A s u v k) :
    ∀ {xs ys : List D} {us vs : List Value} {A : Around} {k : Bool}, allEq (eqD n st) xs ys = some k → Ats X.K H ι st.length xs us → Ats X.K H ι st.length ys vs → A.units + n < cLine →
    ∃ e : Nat → Bool, (∀ j (h1 : j < us.length) (h2 : j < vs.length), EqAt A s us[j] vs[j] (e j)) ∧ k = ((List.range (min us.length vs.length)).all e && us.length == vs.length)
  | xs, ys, us, vs, A, k, e, ha, hb, hu => by
    have la := ha.length
    have lb := hb.length
    unfold allEq at e
    cases xs with
    | nil =>
      cases us with
      | cons _ _ => simp at la
      | nil =>
        refine ⟨fun _ => true, fun j h1 _ => absurd h1 (Nat.not_lt_zero _), ?_⟩
        cases ys with
        | nil =>
          cases vs with
          | cons _ _ => simp at lb
          | nil => rw [← Option.some.inj e]; rfl
        | cons y ys =>
          cases vs with
          | nil => simp at lb
          | cons _ _ => rw [← Option.some.inj e]; simp
    | cons x xs =>
      cases us with
      | nil => simp at la
      | cons u us =>
        cases ys with
        | nil =>
          cases vs with
          | cons _ _ => simp at lb
          | nil => exact ⟨fun _ => true, fun j _ h2 => absurd h2 (Nat.not_lt_zero _), by rw [← Option.some.inj e]; simp⟩
        | cons y ys =>
          cases vs with
          | nil => simp at lb
          | cons v vs =>
            obtain ⟨_, r1, q1⟩ := ha
            obtain ⟨_, r2, q2⟩ := hb
            cases q1 with
            | cons w1 w2 =>
              cases q2 with
              | cons z1 z2 =>
                cases r1 with
                | cons m1 m2 =>
                  cases r2 with
                  | cons n1 n2 =>
                    simp only at e
                    cases e1 : eqD n st x y with
                    | none => rw [e1] at e; simp at e
                    | some p =>
                      cases e2 : allEq (eqD n st) xs ys with
                      | none => rw [e1, e2] at e; simp at e
                      | some q =>
                        rw [e1, e2] at e
                        have hE := ih (A := A) e1 ⟨_, m1, w1⟩ ⟨_, n1, z1⟩ hu
                        obtain ⟨f, hf, hk⟩ := eqAt_Ds I S ih (A := A) e2 ⟨_, m2, w2⟩ ⟨_, n2, z2⟩ hu
                        refine ⟨fun j => match j with | 0 => p | j + 1 => f j, fun j h1 h2 => ?_, ?_⟩
                        · cases j with
                          | zero => exact hE
                          | succ j => exact hf j (by simpa using h1) (by simpa using h2)
                        · have e3 : min (u :: us).length (v :: vs).length = min us.length vs.length + 1 := by simp only [List.length_cons]; omega
                          have e4 : ((u :: us).length == (v :: vs).length) = (us.length == vs.length) := by simp
                          rw [e3, e4, all_cons, ← Option.some.inj e, hk, Bool.and_assoc]
theorem eqAt_D {X : Cx} {pins : List (Addr × Obj)} {σ : L2.St} {H : Hp} {s : Shared} {ι : Nat → Addr} {st : Sto} (I : Inv X pins σ H s) (S : Sim X.K H ι st) : ∀ (n : Nat) {a b : D} {u v : Value} {A : Around} {k : Bool}, eqD n st a b = some k → At X.K H ι st.length a u → At X.K H ι st.length b v → A.units + n < cLine →
    RcAt A s u v k ∧ RcNeAt A s u v (!k) ∧ EqAt A s u v k
  | 0, _, _, _, _, _, _, e, _, _, _ => by unfold eqD at e; cases e
  | n + 1, a, b, u, v, A, k, e, pa, pb, hu => by
    have hu0 : A.units < cLine := by omega
    have hu1 : A.in1.units + n < cLine := by show A.units + 1 + n < cLine; omega
    have e0 := e
    unfold eqD at e
    cases ea : shape st a with
    | none => rw [ea] at e; simp at e
    | some sa =>
      cases eb : shape st b with
      | none => rw [ea, eb] at e; simp at e
      | some sb =>
        rw [ea, eb] at e
        have ua := shape_at I S pa ea
        have ub := shape_at I S pb eb
        have refs : ∀ {l l' : Addr}, u = .ref l → v = .ref l' → RcAt A s u v k → RcNeAt A s u v (!k) → RcAt A s u v k ∧ RcNeAt A s u v (!k) ∧ EqAt A s u v k := fun {l l'} h1 h2 h3 h4 => by
          refine ⟨h3, h4, ?_⟩
          by_cases hl : l = l'
          · have huv : u = v := by rw [h1, h2, hl]
            subst huv
            have := pa.uniq I S pb
            subst this
            rw [eqD_refl _ e0]
            exact EqAt.same _
          · subst h1 h2
            exact EqAt.of_refs hl h3
        have seqs : ∀ {xs ys : List D} {us vs : List Value}, allEq (eqD n st) xs ys = some k → Ats X.K H ι st.length xs us → Ats X.K H ι st.length ys vs →
            ∃ e : Nat → Bool, (∀ j (h1 : j < us.length) (h2 : j < vs.length), EqAt A.in1 s us[j] vs[j] (e j)) ∧ k = ((List.range (min us.length vs.length)).all e && us.length == vs.length) := fun q ra rb => eqAt_Ds I S (fun a b c d => (eqAt_D I S n a b c d).2.2) q ra rb hu1
        cases ua with
        | sc fa ra =>
          cases ub with
          | sc fb rb => cases e; exact ⟨RcAt_V ra rb fa fb, RcNeAt_V ra rb fa fb, eqAt_V ra rb fa fb⟩
          | t hb _ => cases e; exact ⟨RcAt_Vtuple hb hu0 ra fa, RcNeAt_Vtuple hb hu0 ra fa, EqAt_refR (flat_ne (A := A) (s := s) ra fa) (RcAt_Vtuple hb hu0 ra fa)⟩
          | l hb _ => cases e; exact ⟨RcAt_Vlist hb hu0 ra fa, RcNeAt_Vlist hb hu0 ra fa, EqAt_refR (flat_ne (A := A) (s := s) ra fa) (RcAt_Vlist hb hu0 ra fa)⟩
        | @t a1 xs its ha ra =>
          cases ub with
          | sc fb rb => cases e; exact ⟨RcAt_tupleV ha hu0 rb fb, RcNeAt_tupleV ha hu0 rb fb, EqAt_refL (ne_flat (A := A) (s := s) rb fb) (RcAt_tupleV ha hu0 rb fb)⟩
          | @t b1 ys its2 hb rb =>
            obtain ⟨f, hf, hk⟩ := seqs e ra rb
            have hf' : ∀ j (h1 : j < its.size) (h2 : j < its2.size), EqAt A.in1 s its[j] its2[j] (f j) := fun j h1 h2 => by
              have q := hf j (by simpa using h1) (by simpa using h2)
              rw [Array.getElem_toList, Array.getElem_toList] at q
              exact q
            have q1 := RcAt.tuples ha hb hu0 hf'
            have q2 := RcNeAt.tuples ha hb hu0 hf'
            have ek : ((List.range (min its.size its2.size)).all f && its.size == its2.size) = k := by rw [hk]; simp
            rw [ek] at q1 q2
            exact refs rfl rfl q1 q2
          | l hb _ => cases e; exact refs rfl rfl (RcAt.tuple_list ha hb hu0) (RcNeAt.tuple_list ha hb hu0)
        | @l a1 xs its ha ra =>
          cases ub with
          | sc fb rb => cases e; exact ⟨RcAt_listV ha hu0 rb fb, RcNeAt_listV ha hu0 rb fb, EqAt_refL (ne_flat (A := A) (s := s) rb fb) (RcAt_listV ha hu0 rb fb)⟩
          | t hb _ => cases e; exact refs rfl rfl (RcAt.list_tuple ha hb hu0) (RcNeAt.list_tuple ha hb hu0)
          | @l b1 ys its2 hb rb =>
            obtain ⟨f, hf, hk⟩ := seqs e ra rb
            have hf' : ∀ j (h1 : j < its.size) (h2 : j < its2.size), EqAt A.in1 s its[j] its2[j] (f j) := fun j h1 h2 => by
              have q := hf j (by simpa using h1) (by simpa using h2)
              rw [Array.getElem_toList, Array.getElem_toList] at q
              exact q
            by_cases hsz : its.size = its2.size
            · have q1 := RcAt.lists ha hb hsz hu0 hf'
              have q2 := RcNeAt.lists ha hb hsz hu0 hf'
              have ek : (List.range its.size).all f = k := by rw [hk]; simp [hsz]
              rw [ek] at q1 q2
              exact refs rfl rfl q1 q2
            · have ek : k = false := by rw [hk]; simp [hsz]
              subst ek
              exact refs rfl rfl (RcAt.lists_lengths ha hb (by simpa using hsz) hu0) (RcNeAt.lists_lengths ha hb (by simpa using hsz) hu0)
end Ev
set_option Elab.async false
set_option linter.all false
set_option maxRecDepth 100000
set_option maxHeartbeats 4000000
namespace Ev
open PySem PySem.Spec PyProof.Rows L2
noncomputable abbrev Loc := List (Option D)
inductive Bo where
  | add | sub | mul | fdiv | mod | pow
inductive Bt where
  | len | list | int | max | min
inductive Ty where
  | list | tuple
inductive Ex where
  | c (d : D) | v (i : Nat) | tup (es : List Ex) | lst (es : List Ex)
  | bin (op : Bo) (a b : Ex) | not (a : Ex) | and (a b : Ex) | or (a b : Ex)
  | cmp (op : CmpOp) (a b : Ex) | ix (a b : Ex) | sl (a lo hi : Ex) (hl hh : Bool)
  | fn (f : Nat) (args : List Ex) | bt (f : Bt) (args : List Ex) | isi (a : Ex) (t : Ty)
  | comp (rng : Bool) (src elt : Ex) | pop (o : Ex) (fr : Bool)
  | empT | din (neg : Bool) (a b : Ex) | dix (a b : Ex) | dget (a b c : Ex) | dpop (a b : Ex) | dlen (a : Ex) | lkeys (a : Ex) | dictL (a : Ex)
  | compK (src elt : Ex) | compI (src test elt : Ex) | comp2 (src test elt : Ex) | lpop (a b : Ex) | cnt (a b : Ex)
noncomputable def alloc (xs : List D) : M D := fun st => .ok (.ref st.length) (st ++ [.lst xs])
noncomputable def seqOf (st : Sto) : D → Option (List D)
  | .tup xs => some xs
  | .fl xs => some xs
  | .ref n => match st[n]? with
    | some (.lst xs) => some xs
    | _ => none
  | _ => none
noncomputable def popD (fr : Bool) (x : D) : M D := fun st => match x with
  | .ref n => match st[n]? with
    | some (.lst xs) => if fr then (match xs[0]? with
      | some y => .ok y (st.set n (.lst (xs.drop 1)))
      | none => .bad) else (match xs[xs.length - 1]? with
      | some y => .ok y (st.set n (.lst xs.dropLast))
      | none => .bad)
    | _ => .bad
  | _ => .bad
noncomputable def big : Int := 18446744073709551616
noncomputable def binop (op : Bo) (x y : D) : M D := fun st => match op, x, y with
  | .add, .int i, .int j => .ok (.int (i + j)) st
  | .add, .ref m, .ref n => match st[m]?, st[n]? with
    | some (.lst as), some (.lst bs) => if as.length + bs.length ≤ 1000000 then alloc (as ++ bs) st else .bad
    | _, _ => .bad
  | .sub, .int i, .int j => .ok (.int (i - j)) st
  | .mul, .int i, .int j => if ((-big < i ∧ i < big) ∨ (-big < j ∧ j < big)) ∨ (i.natAbs < 2 ^ 1000 ∧ j.natAbs < 2 ^ 1000) then .ok (.int (i * j)) st else .bad
  | .fdiv, .int i, .int j => if j ≠ 0 ∧ j.natAbs < 2 ^ 200 then .ok (.int (i.fdiv j)) st else .bad
  | .mod, .int i, .int j => if j ≠ 0 then .ok (.int (i.fmod j)) st else .bad
  | .pow, .int i, .int j => if 0 ≤ j ∧ j ≤ 1000 ∧ i.natAbs < 1000 then .ok (.int (i ^ j.toNat)) st else .bad
  | _, _, _ => .bad
noncomputable def anyEq (st : Sto) (x : D) : List D → Option Bool
  | [] => some false
  | y :: ys => match eqD 60 st y x, anyEq st x ys with
    | some a, some b => some (a || b)
    | _, _ => none
noncomputable def lstOk (o : D) : M Unit := fun st => match o with
  | .ref n => match st[n]? with
    | some (.lst _) => .ok () st
    | _ => .bad
  | _ => .bad
noncomputable def cmpop (op : CmpOp) (x y : D) : M D := fun st => match op with
  | .Eq => match eqD 60 st x y with
    | some k => .ok (.bl k) st
    | none => .bad
  | .NotEq => match eqD 60 st x y with
    | some k => .ok (.bl (!k)) st
    | none => .bad
  | .Lt => match x, y with
    | .int i, .int j => .ok (.bl (decide (i < j))) st
    | _, _ => .bad
  | .Gt => match x, y with
    | .int i, .int j => .ok (.bl (decide (j < i))) st
    | _, _ => .bad
  | .In => match seqOf st y with
    | some ys => match anyEq st x ys with
      | some k => .ok (.bl k) st
      | none => .bad
    | none => .bad
  | _ => .bad
noncomputable def index (x y : D) : M D := fun st => match x, y with
  | x, .int i => match seqOf st x with
    | some xs => match atI xs i with
      | some d => .ok d st
      | none => .bad
    | none => .bad
  | _, _ => .bad
noncomputable def btin (f : Bt) (ds : List D) : M D := fun st => match f, ds with
  | .len, [x] => match seqOf st x with
    | some xs => .ok (.int xs.length) st
    | none => .bad
  | .list, [x] => match seqOf st x with
    | some xs => alloc xs st
    | none => .bad
  | .int, [.bl b] => .ok (.int (if b then 1 else 0)) st
  | .max, [.int i, .int j] => .ok (.int (if j > i then j else i)) st
  | .min, [.int i, .int j] => .ok (.int (if j < i then j else i)) st
  | _, _ => .bad
noncomputable def isiD (st : Sto) (t : Ty) : D → Option Bool
  | .non => some false
  | .bl _ => some false
  | .int _ => some false
  | .str _ => some false
  | .tup _ => some (match t with | .tuple => true | _ => false)
  | .fl _ => some (match t with | .list => true | _ => false)
  | .ref n => match st[n]? with
    | some (.lst _) => some (match t with | .list => true | _ => false)
    | _ => none
inductive Src where
  | its (xs : List D) | at (n : Nat)
noncomputable def rangeD (n : Nat) : List D := (List.range n).map fun (i : Nat) => D.int (i : Int)
noncomputable def source (rng : Bool) (d : D) : Option Src := match rng, d with
  | true, .int j => if -1000000 ≤ j ∧ j ≤ 1000000 then some (.its (rangeD j.toNat)) else none
  | false, .tup xs => some (.its xs)
  | false, .fl xs => some (.its xs)
  | false, .ref n => some (.at n)
  | _, _ => none
noncomputable def nxt (s : Src) (i : Nat) (st : Sto) : Option (Option D) := match s with
  | .its xs => some xs[i]?
  | .at n => match st[n]? with
    | some (.lst xs) => some xs[i]?
    | _ => none
noncomputable def lenS (s : Src) (st : Sto) : Nat := match s with
  | .its xs => xs.length
  | .at n => match st[n]? with
    | some (.lst xs) => xs.length
    | _ => 0
noncomputable def compN (f : D → M (Option D)) (s : Src) : Nat → Nat → List D → M (List D)
  | 0, _, _ => stuck
  | k + 1, i, acc => fun st => match nxt s i st with
    | some (some x) => bnd (f x) (fun o => match o with
      | some y => compN f s k (i + 1) (acc ++ [y])
      | none => compN f s k (i + 1) acc) st
    | some none => .ok acc st
    | none => .bad
noncomputable def compS (f : D → M (Option D)) (s : Src) : M D := fun st => if lenS s st ≤ 1000000 then bnd (compN f s (lenS s st + 1) 0 []) alloc st else .bad
noncomputable def bool? : D → Option Bool
  | .bl b => some b
  | _ => none
noncomputable def int? : D → Option Int
  | .int i => some i
  | _ => none
noncomputable def cutD (xs : List D) (lo hi : Option Int) : List D := (xs.drop (HT.sIx xs.length 0 lo)).take (HT.sIx xs.length xs.length hi - HT.sIx xs.length 0 lo)
noncomputable def slice (x : D) (lo hi : Option Int) : M D := fun st => match x with
  | .tup _ => .bad
  | x => match seqOf st x with
    | some xs => alloc (cutD xs lo hi) st
    | none => .bad
noncomputable def kD : Key → D
  | .inl i => .int i
  | .inr x => .str x
noncomputable def keyD (k : List Key) : D := .tup (k.map kD)
noncomputable def key1? : D → Option Key
  | .int i => some (.inl i)
  | .str x => some (.inr x)
  | _ => none
noncomputable def key1q? : D → Option Key
  | .int i => some (.inl i)
  | .str x => some (.inr x)
  | .bl b => some (.inl (if b then 1 else 0))
  | _ => none
noncomputable def keysBy (f : D → Option Key) : List D → Option (List Key)
  | [] => some []
  | d :: ds => match f d, keysBy f ds with
    | some k, some ks => some (k :: ks)
    | _, _ => none
noncomputable def key? : D → Option (List Key)
  | .tup ds => keysBy key1? ds
  | _ => none
noncomputable def keyq? : D → Option (List Key)
  | .tup ds => keysBy key1q? ds
  | _ => none
noncomputable def dtt? (x : D) : M (Nat × Bool × List (List Key × D)) := fun st => match x with
  | .ref n => match st[n]? with
    | some (.dtt f kvs) => .ok (n, f, kvs) st
    | _ => .bad
  | _ => .bad
noncomputable def empTD : M D := fun st => .ok (.ref st.length) (st ++ [.dtt false []])
noncomputable def dinD (neg : Bool) (x y : D) : M D := bnd (dtt? y) fun q => bnd (ofO (keyq? x)) fun k => ret (.bl (if neg then !(Cb.look q.2.2 k).isSome else (Cb.look q.2.2 k).isSome))
noncomputable def dixD (x y : D) : M D := bnd (dtt? x) fun q => bnd (ofO (key? y)) fun k => ofO (Cb.look q.2.2 k)
noncomputable def dgetD (x y z : D) : M D := bnd (dtt? x) fun q => bnd (ofO (key? y)) fun k => ret ((Cb.look q.2.2 k).getD z)
noncomputable def dpopD (x y : D) : M D := bnd (dtt? x) fun q => bnd (ofO (key? y)) fun k => bnd (ofO (Cb.look q.2.2 k)) fun d => if q.2.1 then stuck else fun st => .ok d (st.set q.1 (.dtt false (Cb.drp q.2.2 k)))
noncomputable def dsetD (x y v : D) : M Unit := bnd (dtt? x) fun q => bnd (ofO (key? y)) fun k => if q.2.1 || decide (1000000 ≤ q.2.2.length) then stuck else fun st => .ok () (st.set q.1 (.dtt false (Cb.put q.2.2 k v)))
noncomputable def dlenD (x : D) : M D := bnd (dtt? x) fun q => ret (.int q.2.2.length)
noncomputable def lkeysD (x : D) : M D := bnd (dtt? x) fun q => if q.2.2.length ≤ 1000000 then alloc (q.2.2.map fun kv => keyD kv.1) else stuck
noncomputable def pair? : D → Option (List Key × D)
  | .tup [k, v] => (key? k).map fun k' => (k', v)
  | _ => none
noncomputable def pairs? : List D → Option (List (List Key × D))
  | [] => some []
  | d :: r => match pair? d, pairs? r with
    | some p, some r' => some (p :: r')
    | _, _ => none
noncomputable def fillT (ps : List (List Key × D)) : List (List Key × D) := ps.foldl (fun acc p => Cb.put acc p.1 p.2) []
noncomputable def dictLD (x : D) : M D := fun st => match x with
  | .ref n => match st[n]? with
    | some (.lst xs) => match pairs? xs with
      | some ps => if xs.length ≤ 1000 then .ok (.ref st.length) (st ++ [.dtt false (fillT ps)]) else .bad
      | none => .bad
    | _ => .bad
  | _ => .bad
noncomputable def frzD (n : Nat) (b : Bool) : M Unit := fun st => match st[n]? with
  | some (.dtt fz kvs) => if fz = !b then .ok () (st.set n (.dtt b kvs)) else .bad
  | _ => .bad
noncomputable def lpopD (x y : D) : M D := fun st => match x, y with
  | .ref n, .int i => match st[n]? with
    | some (.lst xs) => if 0 ≤ i then (match xs[i.toNat]? with
      | some d => .ok d (st.set n (.lst (xs.eraseIdx i.toNat)))
      | none => .bad) else .bad
    | _ => .bad
  | _, _ => .bad
noncomputable def cntEq (st : Sto) (x : D) : List D → Option Nat
  | [] => some 0
  | y :: ys => match eqD 60 st y x, cntEq st x ys with
    | some a, some b => some (if a then b + 1 else b)
    | _, _ => none
noncomputable def cntD (x y : D) : M D := fun st => match x with
  | .ref n => match st[n]? with
    | some (.lst ys) => match cntEq st y ys with
      | some c => if ys.length ≤ 1000000 then .ok (.int c) st else .bad
      | none => .bad
    | _ => .bad
  | _ => .bad
noncomputable def walkC (items : List Key × D → D) (f : D → M (Option D)) (d : D) : M D := bnd (dtt? d) fun q => bnd (frzD q.1 true) fun _ => bnd (compS f (.its (q.2.2.map items))) fun r => bnd (frzD q.1 false) fun _ => ret r
noncomputable def pairF (t e : D → D → M D) (x : D) : M (Option D) := match x with
  | .tup [a, b] => bnd (t a b) fun z => bnd (ofO (bool? z)) fun k => if k then bnd (e a b) fun y => ret (some y) else ret none
  | _ => stuck
inductive Rs where
  | v (d : D) | x (n : Nat)
noncomputable def Rs.val? : Rs → Option D
  | .v d => some d
  | .x _ => none
noncomputable abbrev Fns := Nat → List D → M Rs
mutual
noncomputable def run (g : Fns) : Ex → Loc → M D
  | .c d, _ => ret d
  | .v i, loc => ofO (loc[i]?.join)
  | .tup es, loc => bnd (runs g es loc) fun ds => ret (.tup ds)
  | .lst es, loc => bnd (runs g es loc) alloc
  | .bin op a b, loc => bnd (run g a loc) fun x => bnd (run g b loc) fun y => binop op x y
  | .not a, loc => bnd (run g a loc) fun x => bnd (ofO (bool? x)) fun b => ret (.bl (!b))
  | .and a b, loc => bnd (run g a loc) fun x => bnd (ofO (bool? x)) fun k => if k then run g b loc else ret (.bl false)
  | .or a b, loc => bnd (run g a loc) fun x => bnd (ofO (bool? x)) fun k => if k then ret (.bl true) else run g b loc
  | .cmp op a b, loc => bnd (run g a loc) fun x => bnd (run g b loc) fun y => cmpop op x y
  | .ix a b, loc => bnd (run g a loc) fun x => bnd (run g b loc) fun y => index x y
  | .sl a lo hi hl hh, loc => bnd (run g a loc) fun x => bnd (if hl then bnd (run g lo loc) fun z => bnd (ofO (int? z)) fun i => ret (some i) else ret none) fun l =>
      bnd (if hh then bnd (run g hi loc) fun z => bnd (ofO (int? z)) fun i => ret (some i) else ret none) fun h => slice x l h
  | .fn f args, loc => bnd (runs g args loc) fun ds => bnd (g f ds) fun r => ofO r.val?
  | .bt f args, loc => bnd (runs g args loc) fun ds => btin f ds
  | .isi a t, loc => bnd (run g a loc) fun x => fun st => match isiD st t x with
    | some k => .ok (.bl k) st
    | none => .bad
  | .comp rng src elt, loc => bnd (run g src loc) fun d => bnd (ofO (source rng d)) fun s => compS (fun x => bnd (run g elt (some x :: loc)) fun y => ret (some y)) s
  | .pop o fr, loc => bnd (run g o loc) fun x => popD fr x
  | .empT, _ => empTD
  | .din neg a b, loc => bnd (run g a loc) fun x => bnd (run g b loc) fun y => dinD neg x y
  | .dix a b, loc => bnd (run g a loc) fun x => bnd (run g b loc) fun y => dixD x y
  | .dget a b c, loc => bnd (run g a loc) fun x => bnd (dtt? x) fun _ => bnd (run g b loc) fun y => bnd (run g c loc) fun z => dgetD x y z
  | .dpop a b, loc => bnd (run g a loc) fun x => bnd (dtt? x) fun _ => bnd (run g b loc) fun y => dpopD x y
  | .dlen a, loc => bnd (run g a loc) fun x => dlenD x
  | .lkeys a, loc => bnd (run g a loc) fun x => lkeysD x
  | .dictL a, loc => bnd (run g a loc) fun x => dictLD x
  | .compK src elt, loc => bnd (run g src loc) fun d => walkC (fun kv => keyD kv.1) (fun x => bnd (run g elt (some x :: loc)) fun y => ret (some y)) d
  | .compI src test elt, loc => bnd (run g src loc) fun d => walkC (fun kv => .tup [keyD kv.1, kv.2]) (pairF (fun a b => run g test (some a :: some b :: loc)) fun a b => run g elt (some a :: some b :: loc)) d
  | .comp2 src test elt, loc => bnd (run g src loc) fun d => bnd (ofO (source false d)) fun s => compS (pairF (fun a b => run g test (some a :: some b :: loc)) fun a b => run g elt (some a :: some b :: loc)) s
  | .lpop a b, loc => bnd (run g a loc) fun x => bnd (lstOk x) fun _ => bnd (run g b loc) fun y => lpopD x y
  | .cnt a b, loc => bnd (run g a loc) fun x => bnd (lstOk x) fun _ => bnd (run g b loc) fun y => cntD x y
noncomputable def runs (g : Fns) : List Ex → Loc → M (List D)
  | [], _ => ret []
  | e :: es, loc => bnd (run g e loc) fun d => bnd (runs g es loc) fun ds => ret (d :: ds)
end
inductive S where
  | set (i : Nat) (e : Ex) | setix (o i e : Ex) | ret (e : Ex) | ex (e : Ex) | app (o e : Ex)
  | ite (c : Ex) (a b : List S) | for_ (i : Nat) (rng : Bool) (src : Ex) (body : List S)
  | whil (c : Ex) (body : List S) | ext (o e : Ex) | clr (o : Ex) | forU (is : List Nat) (src : Ex) (body : List S)
  | dset (o i e : Ex) | daug (neg : Bool) (o i e : Ex) | forK (i : Nat) (src : Ex) (body : List S) | forV (i : Nat) (src : Ex) (body : List S)
inductive Fl where
  | nx (loc : Loc) | rt (d : D) | ex (n : Nat) (loc : Loc)
noncomputable def setitem (o i v : D) : M Unit := fun st => match o, i with
  | .ref n, .int k => match st[n]? with
    | some (.lst xs) => match ixN xs.length k with
      | some j => .ok () (st.set n (.lst (xs.set j v)))
      | none => .bad
    | _ => .bad
  | _, _ => .bad
noncomputable def append (o v : D) : M Unit := fun st => match o with
  | .ref n => match st[n]? with
    | some (.lst xs) => if xs.length < 1000000 then .ok () (st.set n (.lst (xs ++ [v]))) else .bad
    | _ => .bad
  | _ => .bad
noncomputable def extend (o v : D) : M Unit := fun st => match o, v with
  | .ref n, .ref m => match st[n]?, st[m]? with
    | some (.lst xs), some (.lst ys) => if xs.length + ys.length ≤ 10000000 then .ok () (st.set n (.lst (xs ++ ys))) else .bad
    | _, _ => .bad
  | _, _ => .bad
noncomputable def clearD (o : D) : M Unit := fun st => match o with
  | .ref n => match st[n]? with
    | some (.lst _) => .ok () (st.set n (.lst []))
    | _ => .bad
  | _ => .bad
noncomputable def forN (f : D → Loc → M Fl) (s : Src) : Nat → Nat → Loc → M Fl
  | 0, _, _ => stuck
  | k + 1, i, loc => fun st => match nxt s i st with
    | some (some x) => bnd (f x loc) (fun r => match r with
      | .nx loc' => forN f s k (i + 1) loc'
      | .rt d => ret (.rt d)
      | .ex n l => ret (.ex n l)) st
    | some none => .ok (.nx loc) st
    | none => .bad
noncomputable def forS (f : D → Loc → M Fl) (s : Src) (loc : Loc) : M Fl := fun st => forN f s (lenS s st + 1) 0 loc st
noncomputable def whileN (c : Loc → M D) (f : Loc → M Fl) : Nat → Loc → M Fl
  | 0, _ => stuck
  | k + 1, loc => bnd (c loc) fun x => bnd (ofO (bool? x)) fun b => if b then bnd (f loc) (fun r => match r with
      | .nx loc' => whileN c f k loc'
      | .rt d => ret (.rt d)
      | .ex n l => ret (.ex n l)) else ret (.nx loc)
noncomputable def fuel : Nat := 1000000000
noncomputable def setL : List Nat → List D → Loc → Loc
  | i :: is, d :: ds, loc => setL is ds (loc.set i (some d))
  | _, _, loc => loc
noncomputable def items? (n : Nat) (d : D) : M (List D) := fun st => match seqOf st d with
  | some xs => if xs.length = n then .ok xs st else .bad
  | none => .bad
noncomputable def nxOnly (n : Nat) : Fl → M Fl
  | .nx loc => bnd (frzD n false) fun _ => ret (.nx loc)
  | _ => stuck
noncomputable def walkF (items : List Key × D → D) (f : D → Loc → M Fl) (d : D) (loc : Loc) : M Fl := bnd (dtt? d) fun q => bnd (frzD q.1 true) fun _ => bnd (forS f (.its (q.2.2.map items)) loc) fun r => nxOnly q.1 r
mutual
noncomputable def exec (g : Fns) : S → Loc → M Fl
  | .set i e, loc => bnd (run g e loc) fun d => ret (.nx (loc.set i (some d)))
  | .setix o i e, loc => bnd (run g e loc) fun d => bnd (run g o loc) fun x => bnd (run g i loc) fun k => bnd (setitem x k d) fun _ => ret (.nx loc)
  | .ret e, loc => bnd (run g e loc) fun d => ret (.rt d)
  | .ex e, loc => bnd (run g e loc) fun _ => ret (.nx loc)
  | .app o e, loc => bnd (run g o loc) fun x => bnd (lstOk x) fun _ => bnd (run g e loc) fun d => bnd (append x d) fun _ => ret (.nx loc)
  | .ite c a b, loc => bnd (run g c loc) fun x => bnd (ofO (bool? x)) fun k => if k then execs g a loc else execs g b loc
  | .for_ i rng src body, loc => bnd (run g src loc) fun d => bnd (ofO (source rng d)) fun s => forS (fun x loc' => execs g body (loc'.set i (some x))) s loc
  | .whil c body, loc => whileN (run g c) (execs g body) fuel loc
  | .ext o e, loc => bnd (run g o loc) fun x => bnd (lstOk x) fun _ => bnd (run g e loc) fun d => bnd (extend x d) fun _ => ret (.nx loc)
  | .forU is src body, loc => bnd (run g src loc) fun d => bnd (ofO (source false d)) fun s => forS (fun x loc' => bnd (items? is.length x) fun ds => execs g body (setL is ds loc')) s loc
  | .clr o, loc => bnd (run g o loc) fun x => bnd (clearD x) fun _ => ret (.nx loc)
  | .dset o i e, loc => bnd (run g e loc) fun d => bnd (run g o loc) fun x => bnd (run g i loc) fun k => bnd (dsetD x k d) fun _ => ret (.nx loc)
  | .daug neg o i e, loc => bnd (run g o loc) fun x => bnd (run g i loc) fun k => bnd (dixD x k) fun y => bnd (ofO (int? y)) fun y' => bnd (run g e loc) fun z => bnd (ofO (int? z)) fun z' => bnd (dsetD x k (.int (if neg then y' - z' else y' + z'))) fun _ => ret (.nx loc)
  | .forK i src body, loc => bnd (run g src loc) fun d => walkF (fun kv => keyD kv.1) (fun x loc' => execs g body (loc'.set i (some x))) d loc
  | .forV i src body, loc => bnd (run g src loc) fun d => walkF (fun kv => kv.2) (fun x loc' => execs g body (loc'.set i (some x))) d loc
noncomputable def execs (g : Fns) : List S → Loc → M Fl
  | [], loc => ret (.nx loc)
  | s :: ss, loc => bnd (exec g s loc) fun r => match r with
    | .nx loc' => execs g ss loc'
    | .rt d => ret (.rt d)
    | .ex n l => ret (.ex n l)
end
structure Fn where
  ar : Nat
  nl : Nat
  body : List S
noncomputable def callB (g : Fns) (f : Fn) (ds : List D) : M Rs := if ds.length = f.ar then bnd (execs g f.body (ds.map some ++ List.replicate (f.nl - ds.length) none)) fun r => match r with
    | .nx _ => ret (.v .non)
    | .rt d => ret (.v d)
    | .ex _ _ => stuck
  else stuck
noncomputable def calls (tab : List Fn) : Nat → Fns
  | 0, _, _ => stuck
  | k + 1, f, ds => match tab[f]? with
    | some fn => callB (calls tab k) fn ds
    | none => stuck
end Ev
set_option Elab.async false
set_option linter.all false
set_option maxRecDepth 100000
set_option maxHeartbeats 4000000
namespace Ev
open PySem PySem.Spec PyProof.Rows L2
noncomputable def Post (K : PySem.W.Frag) (H : Hp) (ι : Nat → Addr) (st : Sto) (r : R D) (Q : VK) : Prop := match r with
  | .ok d st' => ∀ H' ι' v, Ext H H' ι ι' st.length st'.length → Sim K H' ι' st' → VRel K H' ι' st'.length d v → Q v H'
  | .bad => False
section
variable {K : PySem.W.Frag} {H : Hp} {ι : Nat → Addr} {st : Sto} {Q : VK}
theorem Post.same {d : D} {v : V} (S : Sim K H ι st) (P : Post K H ι st (.ok d st) Q) (r : VRel K H ι st.length d v) : Q v H := P H ι v (Ext.refl _ _ _) S r
theorem Post.mono {H1 : Hp} {ι1 : Nat → Addr} {st1 : Sto} {r : R D} (P : Post K H ι st r Q) (E : Ext H H1 ι ι1 st.length st1.length) : Post K H1 ι1 st1 r Q := by
  cases r with
  | ok d st' => exact fun H' ι' v E' S' r' => P H' ι' v (E.trans E') S' r'
  | bad => exact P
theorem Post.alloc {xs : List D} {vs : List V} (S : Sim K H ι st) (P : Post K H ι st (alloc xs st) Q) (r : VRels K H ι st.length xs vs) : ∀ p, H p = none → Q (.ref p) (upd H p (.lst vs)) := fun p hp => by
  obtain ⟨ι', E, e, S'⟩ := S.laid (o := .lst xs) (ho := .lst vs) hp (fun ι' h1 h2 => ⟨vs, upd_same, VRels.ext0 ⟨Nat.le_succ _, h1, fun b xs e => by rw [upd_ne (ne_of_none e hp)]; exact e, fun b ob u e => by rw [upd_ne (ne_of_none e hp)]; exact e⟩ r⟩)
  have l : (st ++ [O.lst xs]).length = st.length + 1 := by simp
  refine P _ ι' _ (by rw [l]; exact E) S' ?_
  rw [← e, l]
  exact .ref (Nat.lt_succ_self _)
theorem Post.tup {xs : List D} {vs : List V} (S : Sim K H ι st) (P : Post K H ι st (.ok (.tup xs) st) Q) (r : VRels K H ι st.length xs vs) : ∀ p, H p = none → Q (.ref p) (upd H p (.tup vs)) := fun p hp => by
  have hK : ∀ n, n < st.length → ι n ≠ p := fun n hn => by
    obtain ⟨_, h, _⟩ := S.obj hn; exact ne_of_none h hp
  have E : Ext H (upd H p (.tup vs)) ι ι st.length st.length := ⟨⟨Nat.le_refl _, fun _ _ => rfl, fun b xs e => by rw [upd_ne (ne_of_none e hp)]; exact e, fun b ob u e => by rw [upd_ne (ne_of_none e hp)]; exact e⟩, fun b ob e k => ⟨by rw [upd_ne (ne_of_none e hp)]; exact e, k⟩⟩
  refine P _ ι _ E ⟨S.inj, fun n o e => ?_⟩ (.tup upd_same (r.ext E))
  have hn : n < st.length := (List.getElem?_eq_some_iff.mp e).1
  have old := S.ob n o e
  exact old.move E.toExt0 (upd_ne (hK n hn))
theorem VRel.seq {d : D} {v : V} {xs : List D} (S : Sim K H ι st) (r : VRel K H ι st.length d v) (e : seqOf st d = some xs) : ∃ a vs, v = .ref a ∧ (SqL K H a vs ∨ SqT K H a vs) ∧ VRels K H ι st.length xs vs := by
  cases r with
  | non => cases e
  | bl b => cases e
  | int i => cases e
  | str x => cases e
  | tup h r => cases e; exact ⟨_, _, rfl, .inr h, r⟩
  | fl h r => cases e; exact ⟨_, _, rfl, .inl h.sql, r⟩
  | @ref n hn =>
    simp only [seqOf] at e
    cases q : st[n]? with
    | none => rw [q] at e; cases e
    | some o =>
      rw [q] at e
      cases o with
      | lst zs =>
        cases e
        obtain ⟨vs, h1, h2⟩ := S.ob n _ q
        exact ⟨_, vs, rfl, .inl (SqL.of h1), h2⟩
      | dtt _ _ => cases e
theorem VRels.inv1 {d : D} {vs : List V} (r : VRels K H ι st.length [d] vs) : ∃ v, vs = [v] ∧ VRel K H ι st.length d v := by
  cases r with
  | cons h t => cases t; exact ⟨_, rfl, h⟩
end
noncomputable def rD (K : PySem.W.Frag) (op : D → D → M D) : R2 := fun vx vy H Q => ∃ ι st dx dy, Sim K H ι st ∧ VRel K H ι st.length dx vx ∧ VRel K H ι st.length dy vy ∧ Post K H ι st (op dx dy st) Q
noncomputable def Bo.op : Bo → Operator
  | .add => .Add
  | .sub => .Sub
  | .mul => .Mult
  | .fdiv => .FloorDiv
  | .mod => .Mod
  | .pow => .Pow
theorem op_fdivB {X : Cx} : OpR X (binaryOp .FloorDiv) (rI (fun _ j => j ≠ 0 ∧ j.natAbs < 2 ^ 200) fun i j => .int (i.fdiv j)) := opI fun i j _ _ _ _ _ hc q => floordiv_int hc.1 q (.inl (PyProof.noPylong_of_log2 (by
  have h0 : j.natAbs ≠ 0 := by have := hc.1; omega
  have : j.natAbs.log2 < 200 := (Nat.log2_lt h0).mpr hc.2
  omega)))
theorem op_mulB {X : Cx} : OpR X (binaryOp .Mult) (rI (fun i j => CMul i j ∨ (i.natAbs < 2 ^ 1000 ∧ j.natAbs < 2 ^ 1000)) fun i j => .int (i * j)) := opI fun _ _ _ _ _ _ _ hc q => mul_int q (by
  rcases hc with hc | hc
  · exact hc.ok
  · exact .of_bits (Nat.le_trans (PyProof.Rows.intBits_le hc.1) (by decide)) (Nat.le_trans (PyProof.Rows.intBits_le hc.2) (by decide)))
theorem op_bin {X : Cx} (op : Bo) : OpR X (binaryOp op.op) (rD X.K (binop op)) := by
  intro pins s σ H vx vy ux uy Q I rx ry h
  obtain ⟨ι, st, dx, dy, S, hx, hy, P⟩ := h
  have sz : sizeLine = 16777216 := sizeLine_eq
  unfold binop at P
  split at P
  · cases hx; cases hy
    exact op_add pins s σ H _ _ _ _ Q I rx ry ⟨_, _, rfl, rfl, P.same S (.int _)⟩
  · split at P
    · rename_i m n _ _ as bs e1 e2
      split at P
      · rename_i hl
        cases hx with
        | ref h1 =>
          cases hy with
          | ref h2 =>
            obtain ⟨v1, g1, r1⟩ := S.ob _ _ e1
            obtain ⟨v2, g2, r2⟩ := S.ob _ _ e2
            have l1 := r1.length
            have l2 := r2.length
            exact op_cat pins s σ H _ _ _ _ Q I rx ry ⟨_, _, _, _, rfl, rfl, g1, g2, by omega, P.alloc S (r1.append r2)⟩
      · exact False.elim P
    · exact False.elim P
  · cases hx; cases hy
    exact op_sub pins s σ H _ _ _ _ Q I rx ry ⟨_, _, rfl, rfl, P.same S (.int _)⟩
  · split at P
    · rename_i hc
      cases hx; cases hy
      exact op_mulB pins s σ H _ _ _ _ Q I rx ry ⟨_, _, rfl, rfl, hc, P.same S (.int _)⟩
    · exact False.elim P
  · split at P
    · rename_i hc
      cases hx; cases hy
      exact op_fdivB pins s σ H _ _ _ _ Q I rx ry ⟨_, _, rfl, rfl, hc, P.same S (.int _)⟩
    · exact False.elim P
  · split at P
    · rename_i hc
      cases hx; cases hy
      exact op_modN pins s σ H _ _ _ _ Q I rx ry ⟨_, _, rfl, rfl, hc, P.same S (.int _)⟩
    · exact False.elim P
  · split at P
    · rename_i hc
      cases hx; cases hy
      exact op_pow pins s σ H _ _ _ _ Q I rx ry ⟨_, _, rfl, rfl, ⟨hc.1, by omega, by omega⟩, P.same S (.int _)⟩
    · exact False.elim P
  · exact False.elim P
open Classical in
noncomputable def eAt (K : PySem.W.Frag) (H : Hp) (ι : Nat → Addr) (st : Sto) (x : D) (z : Value) : Bool := if h : ∃ d, At K H ι st.length d z then (eqD 60 st h.choose x).getD false else false
theorem eAt_of {X : Cx} {pins : List (Addr × Obj)} {σ : L2.St} {H : Hp} {s : Shared} {ι : Nat → Addr} {st : Sto} (I : Inv X pins σ H s) (S : Sim X.K H ι st) {x y : D} {u : Value} (h : At X.K H ι st.length y u) : eAt X.K H ι st x u = (eqD 60 st y x).getD false := by
  unfold eAt
  have h' : ∃ d, At X.K H ι st.length d u := ⟨y, h⟩
  rw [dif_pos h', h'.choose_spec.uniq I S h]
theorem any_at {X : Cx} {pins : List (Addr × Obj)} {σ : L2.St} {H : Hp} {s : Shared} {ι : Nat → Addr} {st : Sto} (I : Inv X pins σ H s) (S : Sim X.K H ι st) {x : D} {ux : Value} {A : Around} (hx : At X.K H ι st.length x ux) (hu : A.units + 60 < cLine) :
    ∀ {ys : List D} {us : List Value} {k : Bool}, anyEq st x ys = some k → Ats X.K H ι st.length ys us → (∀ u ∈ us, SeqAt.EqAt A s u ux (eAt X.K H ι st x u)) ∧ us.any (eAt X.K H ι st x) = k
  | [], us, k, h, r => by
    have l := r.length
    cases us with
    | cons _ _ => simp at l
    | nil => exact ⟨fun u hu => (by cases hu), Option.some.inj h⟩
  | y :: ys, us, k, h, r => by
    have l := r.length
    cases us with
    | nil => simp at l
    | cons u us =>
      obtain ⟨_, r1, q1⟩ := r
      cases q1 with
      | cons w1 w2 =>
        cases r1 with
        | cons m1 m2 =>
          unfold anyEq at h
          cases e1 : eqD 60 st y x with
          | none => rw [e1] at h; simp at h
          | some a =>
            cases e2 : anyEq st x ys with
            | none => rw [e1, e2] at h; simp at h
            | some b =>
              rw [e1, e2] at h
              obtain ⟨he, hk⟩ := any_at I S hx hu e2 ⟨_, m2, w2⟩
              obtain ⟨_, _, hE⟩ := eqAt_D I S 60 (A := A) e1 ⟨_, m1, w1⟩ hx hu
              have ea : eAt X.K H ι st x u = a := by rw [eAt_of I S ⟨_, m1, w1⟩, e1]; rfl
              refine ⟨fun z hz => ?_, ?_⟩
              · rcases List.mem_cons.mp hz with rfl | hz
                · rw [ea]; exact hE
                · exact he z hz
              · rw [List.any_cons, ea, hk]
                exact Option.some.inj h
theorem op_cmp {X : Cx} (hu : X.A.units + 100 < cLine) (op : CmpOp) : OpR X (compareOp op) (rD X.K (cmpop op)) := by
  intro pins s σ H vx vy ux uy Q I rx ry h
  obtain ⟨ι, st, dx, dy, S, hx, hy, P⟩ := h
  have ax : At X.K H ι st.length dx ux := ⟨_, hx, rx⟩
  have ay : At X.K H ι st.length dy uy := ⟨_, hy, ry⟩
  unfold cmpop at P
  split at P
  · split at P
    · rename_i k e
      obtain ⟨h1, _, _⟩ := eqAt_D I S 60 (A := X.A) e ax ay (by omega)
      exact h1 _ _ _ _ ⟨.bl k, H, I, rfl, P.same S (.bl k)⟩
    · exact False.elim P
  · split at P
    · rename_i k e
      obtain ⟨_, h1, _⟩ := eqAt_D I S 60 (A := X.A) e ax ay (by omega)
      exact h1 _ _ _ _ ⟨.bl (!k), H, I, rfl, P.same S (.bl (!k))⟩
    · exact False.elim P
  · split at P
    · cases hx; cases hy
      exact op_lt pins s σ H _ _ _ _ Q I rx ry ⟨_, _, rfl, rfl, P.same S (.bl _)⟩
    · exact False.elim P
  · split at P
    · cases hx; cases hy
      exact op_gt pins s σ H _ _ _ _ Q I rx ry ⟨_, _, rfl, rfl, P.same S (.bl _)⟩
    · exact False.elim P
  · split at P
    · rename_i ys es
      split at P
      · rename_i k ek
        obtain ⟨a, vs, rfl, hq, rv⟩ := hy.seq S es
        cases ry
        rcases hq with hq | hq
        · obtain ⟨its, r', pl, hz⟩ := I.list hq
          obtain ⟨hE, hk⟩ := any_at I S (A := X.A.in1) ax (by show X.A.units + 1 + 60 < cLine; omega) ek ⟨_, rv, r'⟩
          refine SeqAt.in_listAt _ pl.isList (fun w hw => hE w (by simpa using hw)) ⟨.bl _, H, I, rfl, ?_⟩
          rw [show its.toArray.any (eAt X.K H ι st dx) = its.any (eAt X.K H ι st dx) by simp, hk]
          exact P.same S (.bl k)
        · obtain ⟨its, r', pl, hz⟩ := I.tuple hq
          obtain ⟨hE, hk⟩ := any_at I S (A := X.A.in1) ax (by show X.A.units + 1 + 60 < cLine; omega) ek ⟨_, rv, r'⟩
          refine SeqAt.in_tupleAt _ pl (fun w hw => hE w (by simpa using hw)) ⟨.bl _, H, I, rfl, ?_⟩
          rw [show its.toArray.any (eAt X.K H ι st dx) = its.any (eAt X.K H ι st dx) by simp, hk]
          exact P.same S (.bl k)
      · exact False.elim P
    · exact False.elim P
  · exact False.elim P
theorem atI_rel {K : PySem.W.Frag} {H : Hp} {ι : Nat → Addr} {m : Nat} {ds : List D} {vs : List V} {i : Int} {d : D} (r : VRels K H ι m ds vs) (e : atI ds i = some d) : ∃ v, atI vs i = some v ∧ VRel K H ι m d v := by
  unfold atI at e ⊢
  rw [← r.length]
  cases q : ixN ds.length i with
  | none => rw [q] at e; cases e
  | some j =>
    rw [q] at e
    exact r.get e
theorem ix_D {X : Cx} (hu : X.A.units + 100 < cLine) : IxR X (rD X.K index) := by
  intro value slice pins s σ H vx vy ux uy Q I rx ry h hs
  obtain ⟨ι, st, dx, dy, S, hx, hy, P⟩ := h
  have sz : sizeLine = 16777216 := sizeLine_eq
  unfold index at P
  split at P
  · split at P
    · rename_i xs es
      split at P
      · rename_i d ed
        cases hy
        obtain ⟨a, vs, rfl, hq, rv⟩ := hx.seq S es
        obtain ⟨w, ew, rw'⟩ := atI_rel rv ed
        rcases hq with hq | hq
        · exact ix_list value slice pins s σ H _ _ _ _ Q I rx ry ⟨_, _, _, _, rfl, rfl, hq, ew, P.same S rw'⟩ hs
        · exact ix_tup value slice pins s σ H _ _ _ _ Q I rx ry ⟨_, _, _, _, rfl, rfl, hq, ew, P.same S rw'⟩ hs
      · exact False.elim P
    · exact False.elim P
  · exact False.elim P
end Ev
set_option Elab.async false
set_option linter.all false
set_option maxRecDepth 100000
set_option maxHeartbeats 4000000
namespace Ev
open PySem PySem.Spec PyProof.Rows L2
noncomputable def Ty.name : Ty → String
  | .list => "list"
  | .tuple => "tuple"
theorem isi_ok {X : Cx} {pins : List (Addr × Obj)} {σ : L2.St} {H : Hp} {s : Shared} {ι : Nat → Addr} {st : Sto} {d : D} {v : V} {u : Value} {t : Ty} {k : Bool} {Q : VK} (I : Inv X pins σ H s) (S : Sim X.K H ι st) (hv : VRel X.K H ι st.length d v) (r : RelV v u)
    (e : isiD st t d = some k) (q : Q (.bl k) H) : wpAny (model X.prog X.w) X.A (call (.builtin "isinstance") [u, .type t.name]) (EP X pins σ Q) X.xe s := by
  have fin : ∀ tk, EP X pins σ Q (.bool k) { s with toks := tk } := fun tk => ⟨.bl k, H, I.tok _, rfl, q⟩
  have fin0 : EP X pins σ Q (.bool k) s := ⟨.bl k, H, I, rfl, q⟩
  cases hv with
  | non =>
    cases r
    cases e
    cases t
    · exact call_isinstance (isinstance_false_none (by decide +kernel) F.isi_meta_list F.sub_NoneType_list) (fin _)
    · exact call_isinstance (isinstance_false_none (by decide +kernel) F.isi_meta_tuple F.sub_NoneType_tuple) (fin _)
  | bl b =>
    cases r
    cases t
    · cases e; exact IsiPair.bool_list (fin _)
    · cases e; exact IsiPair.bool_tuple (fin _)
  | int i =>
    obtain ⟨tk, rfl⟩ := r
    cases t
    · cases e; exact IsiPair.int_list (fin _)
    · cases e; exact IsiPair.int_tuple (fin _)
  | str x =>
    obtain ⟨tk, rfl⟩ := r
    cases t
    · cases e; exact IsiPair.str_list (fin _)
    · cases e; exact IsiPair.str_tuple (fin _)
  | tup h _ =>
    cases r
    obtain ⟨_, _, ⟨o, h1, h2, _⟩, _⟩ := I.tuple h.t
    cases t
    · cases e; exact IsiPair.tuple_list h1 h2 (fin _)
    · cases e; exact IsiPair.tuple_tuple h1 h2 fin0
  | fl h _ =>
    cases r
    obtain ⟨_, _, p, _⟩ := I.list h.sql
    obtain ⟨o, h1, h2, _⟩ := p.isList
    cases t
    · cases e; exact IsiPair.list_list h1 h2 fin0
    · cases e; exact IsiPair.list_tuple h1 h2 (fin _)
  | @ref n hn =>
    cases r
    simp only [isiD] at e
    cases q' : st[n]? with
    | none => rw [q'] at e; cases e
    | some ob =>
      rw [q'] at e
      have ho := S.ob n ob q'
      cases ob with
      | lst xs =>
        obtain ⟨vs, g1, g2⟩ := ho
        obtain ⟨_, _, p, _⟩ := I.list (SqL.of g1)
        obtain ⟨o, h1, h2, _⟩ := p.isList
        cases t
        · cases e; exact IsiPair.list_list h1 h2 fin0
        · cases e; exact IsiPair.list_tuple h1 h2 (fin _)
      | dtt _ _ => cases e
theorem cut_rel {K : PySem.W.Frag} {H : Hp} {ι : Nat → Addr} {m : Nat} {ds : List D} {vs : List V} (r : VRels K H ι m ds vs) (lo hi : Option Int) : VRels K H ι m (cutD ds lo hi) (cutV vs lo hi) := by
  unfold cutD cutV
  rw [← r.length]
  exact (r.drop _).take _
theorem sl_D {X : Cx} : SlR X (fun vx lo hi H Q => ∃ ι st dx, Sim X.K H ι st ∧ VRel X.K H ι st.length dx vx ∧ Post X.K H ι st (slice dx lo hi st) Q) := by
  intro pins s σ H x v vl vu lo hi sl Q I rx hs pl pu h
  obtain ⟨ι, st, dx, S, hx, P⟩ := h
  have sz : sizeLine = 16777216 := sizeLine_eq
  unfold slice at P
  split at P
  · exact False.elim P
  · split at P
    · rename_i xs es
      obtain ⟨a, vs, rfl, hq, rv⟩ := hx.seq S es
      rcases hq with hq | hq
      · exact sl_list pins s σ H _ v vl vu lo hi sl Q I rx hs pl pu ⟨_, _, rfl, hq, P.alloc S (cut_rel rv lo hi)⟩
      · exfalso
        cases hx with
        | tup _ _ => simp_all
        | fl h _ => exact seq_ne I hq h.sql
        | ref h =>
          obtain ⟨u, e', n1, n2⟩ := S.obj h; rcases tup_obj I hq with ⟨_, e⟩ | ⟨_, _, e⟩ | e <;> rw [e] at e' <;> first | (cases e'; done) | (cases e'; exact absurd rfl (n1 _)) | (cases e'; obtain ⟨_, z⟩ := n2 _ _ rfl; cases z)
    · exact False.elim P
noncomputable def rB (K : PySem.W.Frag) (f : Bt) : List V → Hp → VK → Prop := fun vs H Q => ∃ ι st ds, Sim K H ι st ∧ VRels K H ι st.length ds vs ∧ Post K H ι st (btin f ds st) Q
noncomputable def Bt.val : Bt → Value
  | .len => .builtin "len"
  | .list => .type "list"
  | .int => .type "int"
  | .max => .builtin "max"
  | .min => .builtin "min"
theorem call_D {X : Cx} (hc : X.calm = true) (f : Bt) : CallR X f.val (rB X.K f) := by
  intro pins s σ H xs us Q I r h
  obtain ⟨ι, st, ds, S, rv, P⟩ := h
  have sz : sizeLine = 16777216 := sizeLine_eq
  unfold btin at P
  split at P
  · split at P
    · rename_i ys es
      obtain ⟨v, rfl, hv⟩ := rv.inv1
      obtain ⟨a, vs, rfl, hq, rr⟩ := hv.seq S es
      exact call_len_seq pins s σ H _ us Q I r ⟨_, _, rfl, hq, by rw [← rr.length]; exact P.same S (.int _)⟩
    · exact False.elim P
  · split at P
    · rename_i ys es
      obtain ⟨v, rfl, hv⟩ := rv.inv1
      obtain ⟨a, vs, rfl, hq, rr⟩ := hv.seq S es
      exact call_list_of pins s σ H _ us Q I r ⟨_, _, rfl, hq, P.alloc S rr⟩
    · exact False.elim P
  · obtain ⟨v, rfl, hv⟩ := rv.inv1
    cases hv
    exact call_int1 pins s σ H _ us Q I r (.inr ⟨_, rfl, P.same S (.int _)⟩)
  · cases rv with
    | cons h1 t => cases t with
      | cons h2 t => cases t; cases h1; cases h2; exact call_max2 hc pins s σ H _ us Q I r ⟨_, _, rfl, P.same S (.int _)⟩
  · cases rv with
    | cons h1 t => cases t with
      | cons h2 t => cases t; cases h1; cases h2; exact call_min2 hc pins s σ H _ us Q I r ⟨_, _, rfl, P.same S (.int _)⟩
  · exact False.elim P
end Ev
set_option Elab.async false
set_option linter.all false
set_option maxRecDepth 100000
set_option maxHeartbeats 4000000
namespace Ev
open PySem PySem.Spec PyProof.Rows L2
structure Tab where
  fns : List Str
  calm : Bool
noncomputable def ixOf : List Str → Str → Option Nat
  | [], _ => none
  | y :: r, x => if y = x then some 0 else (ixOf r x).map (· + 1)
theorem ixOf_get : ∀ {N : List Str} {x : Str} {i : Nat}, ixOf N x = some i → N[i]? = some x
  | [], _, _, h => by cases h
  | y :: r, x, i, h => by
    unfold ixOf at h
    split at h
    · rename_i e; cases h; rw [e]; rfl
    · cases q : ixOf r x with
      | none => rw [q] at h; cases h
      | some j =>
        rw [q] at h
        have : j + 1 = i := Option.some.inj h
        subst this
        simpa using ixOf_get q
noncomputable def btOf : List (Str × Bt) := [("len", .len), ("list", .list), ("int", .int), ("max", .max), ("min", .min)]
noncomputable def tyOf : List (Str × Ty) := [("list", .list), ("tuple", .tuple)]
noncomputable def blts : List Str := ["len", "list", "tuple", "int", "max", "min", "dict", "isinstance", "range"]
noncomputable def boOf : Operator → Option Bo
  | .Add => some .add
  | .Sub => some .sub
  | .Mult => some .mul
  | .FloorDiv => some .fdiv
  | .Mod => some .mod
  | .Pow => some .pow
  | _ => none
noncomputable def compOk (sc scope : Scope) (N : List Str) (x : Str) : Bool :=
  (scope.kind == .function) && (scope.names.lookup x == some .local) && decide ((x :: mkN scope N).Nodup) && (x != "__debug__") && (x != "__classdict__") &&
  (scope.names.all fun y => (y.2 != .cell) && (y.2 != .local || scope.names.lookup y.1 == some .local) && (y.2 != .free || sc.names.lookup y.1 == some .cell || sc.names.lookup y.1 == some .free)) &&
  N.all fun z => (scope.names.lookup z != some .local || scope.names.lookup (hid z) == none) && (hid z != "__debug__") && (hid z != "__classdict__")
noncomputable def compOk2 (sc scope : Scope) (N : List Str) (x y : Str) : Bool :=
  compOk sc scope N x && (scope.names.lookup y == some .local) && decide ((x :: y :: mkN scope N).Nodup) && (y != "__debug__") && (y != "__classdict__")
noncomputable def relabS (sc scope : Scope) : Scope :=
  { scope with names := scope.names.map fun (n, k) => if (k == .free && sc.kind == .function && sc.names.lookup n == some .cell) then (n, .cell) else (n, k) }
noncomputable def isGlob (sc : Scope) (x : Str) : Bool := sc.names.lookup x == some .globalImplicit
noncomputable def plainSub : Expr → Bool
  | .Slice .. => false
  | _ => true
noncomputable def nm? : Expr → Option Str
  | .Name x _ => some x
  | _ => none
theorem nm?_inv {e : Expr} {x : Str} (h : nm? e = some x) : ∃ p, e = .Name x p := by
  cases e <;> cases h
  exact ⟨_, rfl⟩
noncomputable def callN? : Expr → Option (Str × List Expr)
  | .Call f args kw _ => (match nm? f with
    | some r => (match kw with
      | [] => some (r, args)
      | _ :: _ => none)
    | none => none)
  | _ => none
theorem callN?_inv {e : Expr} {x : Str} {as : List Expr} (h : callN? e = some (x, as)) : ∃ p q, e = .Call (.Name x p) as [] q := by
  unfold callN? at h
  split at h
  · split at h
    · rename_i hr
      obtain ⟨p, rfl⟩ := nm?_inv hr
      split at h
      · cases h; exact ⟨_, _, rfl⟩
      · cases h
    · cases h
  · cases h
noncomputable def call1? (e : Expr) : Option (Str × Expr) := match callN? e with
  | some (r, as) => (match as with
    | [a] => some (r, a)
    | _ => none)
  | none => none
theorem call1?_inv {e : Expr} {x : Str} {a : Expr} (h : call1? e = some (x, a)) : ∃ p q, e = .Call (.Name x p) [a] [] q := by
  unfold call1? at h
  split at h
  · rename_i hr
    split at h
    · cases h; exact callN?_inv hr
    · cases h
  · cases h
noncomputable def isNameE : Expr → Bool
  | .Name .. => true
  | _ => false
noncomputable def isPop (s : Str) : Bool := s == "pop"
noncomputable def popArg : List Expr → Option Bool
  | [] => some false
  | [.Constant (.int i) _ _] => if i = 0 then some true else none
  | _ => none
noncomputable def dnames : List Str := ["sources", "readers", "_law_onward", "_law_seen", "_law_held"]
noncomputable def dn (e : Expr) : Bool := match nm? e with
  | some x => dnames.contains x
  | none => false
theorem dn_name {e : Expr} (h : dn e = true) : isNameE e = true := by
  unfold dn at h
  split at h
  · rename_i hx
    obtain ⟨_, rfl⟩ := nm?_inv hx
    rfl
  · cases h
noncomputable def inNeg : CmpOp → Option Bool
  | .In => some false
  | .NotIn => some true
  | _ => none
noncomputable def attr? : Expr → Option (Expr × Str × Pos)
  | .Attribute o m ap => some (o, m, ap)
  | _ => none
theorem attr?_inv {e o : Expr} {m : Str} {ap : Pos} (h : attr? e = some (o, m, ap)) : e = .Attribute o m ap := by
  cases e <;> cases h
  rfl
noncomputable def fnK (f : Str) (d : Bool) : Option (Ex → Ex) := if f = "len" ∧ d = true then some .dlen else if f = "list" ∧ d = true then some .lkeys else if f = "dict" then some .dictL else none
noncomputable def mtK (m : Str) (d p : Bool) : Option (Ex → Ex → Ex) := if m = "pop" ∧ d = true then some .dpop else if m = "pop" ∧ p = true then some .lpop else if m = "count" then some .cnt else none
noncomputable def pairT? : Expr → Option (Str × Str)
  | .Tuple ts _ _ => (match ts with
    | [a, b] => (match nm? a, nm? b with
      | some x, some y => some (x, y)
      | _, _ => none)
    | _ => none)
  | _ => none
theorem pairT?_inv {e : Expr} {x y : Str} (h : pairT? e = some (x, y)) : ∃ p q k r, e = .Tuple [.Name x p, .Name y q] k r := by
  unfold pairT? at h
  split at h
  · split at h
    · split at h
      · rename_i h1 h2
        cases h
        obtain ⟨_, rfl⟩ := nm?_inv h1
        obtain ⟨_, rfl⟩ := nm?_inv h2
        exact ⟨_, _, _, _, rfl⟩
      · cases h
    · cases h
  · cases h
noncomputable def walkOf (m : Str) : Expr → Option Expr
  | .Call fe args kw cp => (match args, kw, attr? fe with
    | [], [], some (o, m', ap) => if m' = m ∧ (ap.endLine == cp.line) = true ∧ dn o = true then some o else none
    | _, _, _ => none)
  | _ => none
theorem walkOf_inv {m : Str} {e d : Expr} (h : walkOf m e = some d) : ∃ ap cp, e = .Call (.Attribute d m ap) [] [] cp ∧ (ap.endLine == cp.line) = true ∧ dn d = true := by
  unfold walkOf at h
  split at h
  · split at h
    · rename_i ha
      split at h
      · rename_i hc
        cases h
        obtain ⟨rfl, h2, h3⟩ := hc
        rw [attr?_inv ha]
        exact ⟨_, _, rfl, h2, h3⟩
      · cases h
    · cases h
  · cases h
mutual
noncomputable def cT (T : Tab) (n : Nat) (sc : Scope) (N : List Str) (e : Expr) : Option Ex := match n with
  | 0 => none
  | n + 1 => match e with
    | .Compare a ops bs _ => (match ops, bs with
      | [op], [b] => if dn b then (match inNeg op, cE T n sc N a, cE T n sc N b with
        | some neg, some a', some b' => some (.din neg a' b')
        | _, _, _ => none) else none
      | _, _ => none)
    | .Subscript a b _ => if dn a && plainSub b then (match cE T n sc N a, cE T n sc N b with
      | some a', some b' => some (.dix a' b')
      | _, _ => none) else none
    | .Dict ks vs _ => (match ks, vs with
      | [], [] => some .empT
      | _, _ => none)
    | .Call fe args kw cp => (match kw, args with
      | [], [a] => (match nm? fe with
        | some f => if isGlob sc f && T.calm then (match fnK f (dn a) with
          | some F => (cE T n sc N a).map F
          | none => none) else none
        | none => (match attr? fe with
          | some (o, m, ap) => if (ap.endLine == cp.line) && isNameE o then (match mtK m (dn o) (popArg [a]).isNone with
            | some F => (match cE T n sc N o, cE T n sc N a with
              | some o', some a' => some (F o' a')
              | _, _ => none)
            | none => none) else none
          | none => none))
      | [], [a, b] => (match attr? fe with
        | some (o, m, ap) => if (ap.endLine == cp.line) && dn o && m == "get" then (match cE T n sc N o, cE T n sc N a, cE T n sc N b with
          | some o', some a', some b' => some (.dget o' a' b')
          | _, _, _ => none) else none
        | none => none)
      | _, _ => none)
    | .ListComp elt gens scope _ => (match gens with
      | [⟨t, it, ifs, k⟩] => if k = 0 ∧ T.calm = true then (match nm? t with
        | some x => if compOk sc scope N x && dn it && ifs.isEmpty then (match cE T n sc N it, cE T n (relabS sc scope) (x :: mkN scope N) elt with
          | some s', some e' => some (.compK s' e')
          | _, _ => none) else none
        | none => cT2 T n sc N t it ifs elt scope) else none
      | _ => none)
    | _ => none
noncomputable def cT2 (T : Tab) (n : Nat) (sc : Scope) (N : List Str) (t it : Expr) (ifs : List Expr) (elt : Expr) (scope : Scope) : Option Ex := match n with
  | 0 => none
  | n + 1 => match pairT? t, ifs with
    | some (x, y), [c] => if compOk2 sc scope N x y then (match cE T n (relabS sc scope) (x :: y :: mkN scope N) c, cE T n (relabS sc scope) (x :: y :: mkN scope N) elt with
      | some c', some e' => (match walkOf "items" it with
        | some d => (cE T n sc N d).map fun s' => .compI s' c' e'
        | none => (cE T n sc N it).map fun s' => .comp2 s' c' e')
      | _, _ => none) else none
    | _, _ => none
noncomputable def cE (T : Tab) (n : Nat) (sc : Scope) (N : List Str) (e : Expr) : Option Ex := match n with
  | 0 => none
  | n + 1 => match cT T n sc N e with
   | some r => some r
   | none => match e with
    | .Constant c _ _ => (match c with
      | .int i => some (.c (.int i))
      | .str s => some (.c (.str s))
      | .bool b => some (.c (.bl b))
      | _ => none)
    | .Name x _ => match sc.names.lookup x with
      | some .local => (ixOf N x).map .v
      | some .cell => (ixOf N x).map .v
      | some .free => (ixOf N x).map .v
      | _ => none
    | .Tuple es _ _ => if es.length ≤ 1000 then (cEs T n sc N es).map .tup else none
    | .List es _ => if es.length ≤ 1000 then (cEs T n sc N es).map .lst else none
    | .BinOp a op b _ => match cE T n sc N a, boOf op, cE T n sc N b with
      | some a', some o, some b' => some (.bin o a' b')
      | _, _, _ => none
    | .UnaryOp op a _ => (match op with
      | .Not => (cE T n sc N a).map .not
      | _ => none)
    | .BoolOp op es p => (match es with
      | [] => none
      | [a] => cE T n sc N a
      | a :: b :: r => (match op with
        | .And => (match cE T n sc N a, cE T n sc N (.BoolOp .And (b :: r) p) with
          | some a', some b' => some (.and a' b')
          | _, _ => none)
        | .Or => (match cE T n sc N a, cE T n sc N (.BoolOp .Or (b :: r) p) with
          | some a', some b' => some (.or a' b')
          | _, _ => none)))
    | .Compare a ops bs _ => (match ops, bs with
      | [op], [b] => (match cE T n sc N a, cE T n sc N b with
        | some a', some b' => some (.cmp op a' b')
        | _, _ => none)
      | _, _ => none)
    | .Subscript a b _ => if plainSub b then (match cE T n sc N a, cE T n sc N b with
      | some a', some b' => some (.ix a' b')
      | _, _ => none) else (match b with
      | .Slice lo hi stp _ => (match stp with
        | some _ => none
        | none => (match lo with
          | none => (match hi with
            | none => none
            | some h => (match cE T n sc N a, cE T n sc N h with
              | some a', some h' => some (.sl a' h' h' false true)
              | _, _ => none))
          | some _ => none))
      | _ => none)
    | .Call fe args kw cp => (match kw with
      | _ :: _ => none
      | [] => (match nm? fe with
        | some f => (if isGlob sc f = false then none else match args with
          | [] => none
          | a :: as => match ixOf T.fns f with
            | some i => (cEs T n sc N (a :: as)).map (.fn i)
            | none => match btOf.lookup f with
              | some b => if T.calm = true then (cEs T n sc N (a :: as)).map (.bt b) else none
              | none => if f = "isinstance" then (match as with
                | [.Name t _] => if isGlob sc t then (match tyOf.lookup t, cE T n sc N a with
                  | some ty, some a' => some (.isi a' ty)
                  | _, _ => none) else none
                | _ => none) else none)
        | none => (match fe with
          | .Attribute o m ap => if isPop m && (ap.endLine == cp.line) && isNameE o then (match popArg args with
            | some fr => (cE T n sc N o).map fun o' => .pop o' fr
            | none => none) else none
          | _ => none)))
    | .ListComp elt gens scope _ => (match gens with
      | [⟨t, it, ifs, k⟩] => if k = 0 then (match nm? t with
        | some x => if T.calm = true ∧ compOk sc scope N x = true then (match call1? it with
          | some ra => if ra.1 = "range" ∧ isGlob sc ra.1 = true then cComp T n sc N ra.2 x elt ifs scope else none
          | none => none) else none
        | none => none) else none
      | _ => none)
    | _ => none
noncomputable def cEs (T : Tab) (n : Nat) (sc : Scope) (N : List Str) (es : List Expr) : Option (List Ex) := match n with
  | 0 => none
  | n + 1 => match es with
    | [] => some []
    | e :: r => match cE T n sc N e, cEs T n sc N r with
      | some e', some r' => some (e' :: r')
      | _, _ => none
noncomputable def cComp (T : Tab) (n : Nat) (sc : Scope) (N : List Str) (src : Expr) (x : Str) (elt : Expr) (ifs : List Expr) (scope : Scope) : Option Ex := match n with
  | 0 => none
  | n + 1 => match cE T n sc N src, cE T n (relabS sc scope) (x :: mkN scope N) elt with
    | some s', some e' => match ifs with
      | [] => some (.comp true s' e')
      | _ => none
    | _, _ => none
end
structure LRel (K : PySem.W.Frag) (H : Hp) (ι : Nat → Addr) (m : Nat) (loc : Loc) (σ : L2.St) : Prop where
  len : loc.length = σ.length
  at_ : ∀ (i : Nat) (d : D), loc[i]? = some (some d) → ∃ v : V, σ[i]? = some (some v) ∧ VRel K H ι m d v
theorem LRel.ext {K : PySem.W.Frag} {H H' : Hp} {ι ι' : Nat → Addr} {m m' : Nat} {loc : Loc} {σ : L2.St} (L : LRel K H ι m loc σ) (E : Ext H H' ι ι' m m') : LRel K H' ι' m' loc σ :=
  ⟨L.len, fun i d e => let ⟨v, h1, h2⟩ := L.at_ i d e; ⟨v, h1, h2.ext E⟩⟩
theorem LRel.cons {K : PySem.W.Frag} {H : Hp} {ι : Nat → Addr} {m : Nat} {loc : Loc} {σ : L2.St} {d : D} {v : V} (L : LRel K H ι m loc σ) (r : VRel K H ι m d v) : LRel K H ι m (some d :: loc) (some v :: σ) :=
  ⟨by simp [L.len], fun i e h => by
    cases i with
    | zero =>
      have : d = e := by simpa using h
      subst this
      exact ⟨v, rfl, r⟩
    | succ i => simpa using L.at_ i e (by simpa using h)⟩
theorem LRel.set {K : PySem.W.Frag} {H : Hp} {ι : Nat → Addr} {m : Nat} {loc : Loc} {σ : L2.St} {d : D} {v : V} (L : LRel K H ι m loc σ) (j : Nat) (r : VRel K H ι m d v) : LRel K H ι m (loc.set j (some d)) (σ.set j (some v)) :=
  ⟨by simp [L.len], fun i e h => by
    by_cases hj : j = i
    · subst hj
      have hl : j < loc.length := by
        have := (List.getElem?_eq_some_iff.mp h).1
        simpa using this
      rw [List.getElem?_set_self hl] at h
      cases h
      exact ⟨v, by rw [List.getElem?_set_self (by rw [← L.len]; exact hl)], r⟩
    · rw [List.getElem?_set_ne hj] at h
      obtain ⟨w, h1, h2⟩ := L.at_ i e h
      exact ⟨w, by rw [List.getElem?_set_ne hj]; exact h1, h2⟩⟩
noncomputable def tE (K : PySem.W.Frag) (m : Loc → M D) : TE := fun σ H Q => ∃ ι st loc, Sim K H ι st ∧ LRel K H ι st.length loc σ ∧ Post K H ι st (m loc st) Q
noncomputable def PostT (K : PySem.W.Frag) (H : Hp) (ι : Nat → Addr) (st : Sto) (r : R D) (Q : Bool → Hp → Prop) : Prop := match r with
  | .ok (.bl k) st' => ∀ H' ι', Ext H H' ι ι' st.length st'.length → Sim K H' ι' st' → Q k H'
  | _ => False
noncomputable def tT (K : PySem.W.Frag) (m : Loc → M D) : TT := fun σ H Q => ∃ ι st loc, Sim K H ι st ∧ LRel K H ι st.length loc σ ∧ PostT K H ι st (m loc st) Q
noncomputable def PostA (K : PySem.W.Frag) (H : Hp) (ι : Nat → Addr) (st : Sto) (r : R (List D)) (Q : List V → Hp → Prop) : Prop := match r with
  | .ok ds st' => ∀ H' ι' vs, Ext H H' ι ι' st.length st'.length → Sim K H' ι' st' → VRels K H' ι' st'.length ds vs → Q vs H'
  | .bad => False
noncomputable def tA (K : PySem.W.Frag) (m : Loc → M (List D)) : TA := fun σ H Q => ∃ ι st loc, Sim K H ι st ∧ LRel K H ι st.length loc σ ∧ PostA K H ι st (m loc st) Q
section
variable {K : PySem.W.Frag} {H : Hp} {ι : Nat → Addr} {st : Sto} {σ : L2.St} {loc : Loc}
theorem tE_of {m : Loc → M D} {Q : VK} {d : D} {st1 : Sto} (S : Sim K H ι st) (L : LRel K H ι st.length loc σ) (e : m loc st = .ok d st1) (k : ∀ H1 ι1 v, Ext H H1 ι ι1 st.length st1.length → Sim K H1 ι1 st1 → VRel K H1 ι1 st1.length d v → Q v H1) : tE K m σ H Q :=
  ⟨ι, st, loc, S, L, by rw [e]; exact k⟩
theorem tT_of {m : Loc → M D} {Q : Bool → Hp → Prop} {b : Bool} {st1 : Sto} (S : Sim K H ι st) (L : LRel K H ι st.length loc σ) (e : m loc st = .ok (.bl b) st1) (k : ∀ H1 ι1, Ext H H1 ι ι1 st.length st1.length → Sim K H1 ι1 st1 → Q b H1) : tT K m σ H Q :=
  ⟨ι, st, loc, S, L, by rw [e]; exact k⟩
theorem tA_of {m : Loc → M (List D)} {Q : List V → Hp → Prop} {ds : List D} {st1 : Sto} (S : Sim K H ι st) (L : LRel K H ι st.length loc σ) (e : m loc st = .ok ds st1) (k : ∀ H1 ι1 vs, Ext H H1 ι ι1 st.length st1.length → Sim K H1 ι1 st1 → VRels K H1 ι1 st1.length ds vs → Q vs H1) : tA K m σ H Q :=
  ⟨ι, st, loc, S, L, by rw [e]; exact k⟩
theorem bnd_inv {α : Type} {m : M α} {f : α → M D} {st0 : Sto} {Q : VK} (P : Post K H ι st (bnd m f st0) Q) : ∃ a st1, m st0 = .ok a st1 ∧ Post K H ι st (f a st1) Q := by
  unfold bnd at P
  cases e : m st0 with
  | ok a st1 => rw [e] at P; exact ⟨a, st1, rfl, P⟩
  | bad => rw [e] at P; exact P.elim
theorem bnd_invT {α : Type} {m : M α} {f : α → M D} {st0 : Sto} {Q : Bool → Hp → Prop} (P : PostT K H ι st (bnd m f st0) Q) : ∃ a st1, m st0 = .ok a st1 ∧ PostT K H ι st (f a st1) Q := by
  unfold bnd at P
  cases e : m st0 with
  | ok a st1 => rw [e] at P; exact ⟨a, st1, rfl, P⟩
  | bad => rw [e] at P; exact P.elim
theorem bnd_invA {α β : Type} {m : M α} {f : α → M (List D)} {st0 : Sto} {Q : List V → Hp → Prop} (P : PostA K H ι st (bnd m f st0) Q) : ∃ a st1, m st0 = .ok a st1 ∧ PostA K H ι st (f a st1) Q := by
  unfold bnd at P
  cases e : m st0 with
  | ok a st1 => rw [e] at P; exact ⟨a, st1, rfl, P⟩
  | bad => rw [e] at P; exact P.elim
theorem ofO_inv {α : Type} {o : Option α} {a : α} {st0 st1 : Sto} (e : ofO o st0 = .ok a st1) : o = some a ∧ st1 = st0 := by
  unfold ofO at e
  cases o with
  | none => cases e
  | some b => cases e; exact ⟨rfl, rfl⟩
theorem bool?_inv {x : D} {b : Bool} (e : bool? x = some b) : x = .bl b := by
  cases x <;> cases e
  rfl
theorem int?_inv {x : D} {b : Int} (e : int? x = some b) : x = .int b := by
  cases x <;> cases e
  rfl
theorem PostT.inv {r : R D} {Q : Bool → Hp → Prop} (P : PostT K H ι st r Q) : ∃ b st1, r = .ok (.bl b) st1 ∧ ∀ H' ι', Ext H H' ι ι' st.length st1.length → Sim K H' ι' st1 → Q b H' := by
  unfold PostT at P
  split at P
  · exact ⟨_, _, rfl, P⟩
  · exact P.elim
theorem PostT.mono {r : R D} {Q : Bool → Hp → Prop} {H1 : Hp} {ι1 : Nat → Addr} {st1 : Sto} (P : PostT K H ι st r Q) (E : Ext H H1 ι ι1 st.length st1.length) : PostT K H1 ι1 st1 r Q := by
  obtain ⟨b, st2, rfl, k⟩ := P.inv
  exact fun H' ι' E' S' => k H' ι' (E.trans E') S'
end
theorem _root_.L2.PE.imp {X : Cx} {e : Expr} {t t' : TE} (h : PE X e t) (k : ∀ σ H Q, t' σ H Q → t σ H Q) : PE X e t' := fun pins s σ H Q I q => h pins s σ H Q I (k σ H Q q)
theorem _root_.L2.PT.imp {X : Cx} {e : Expr} {t t' : TT} (h : PT X e t) (k : ∀ σ H Q, t' σ H Q → t σ H Q) : PT X e t' := fun pins s σ H Q I q => h pins s σ H Q I (k σ H Q q)
theorem _root_.L2.PA.imp {X : Cx} {es : List Expr} {t t' : TA} (h : PA X es t) (k : ∀ σ H Q, t' σ H Q → t σ H Q) : PA X es t' := fun pos pins s σ H Q I q => h pos pins s σ H Q I (k σ H Q q)
noncomputable def PostF (K : PySem.W.Frag) (E : XK) (H : Hp) (ι : Nat → Addr) (st : Sto) (r : R Rs) (Q : VK) : Prop := match r with
  | .ok (.v d) st' => ∀ H' ι' v, Ext H H' ι ι' st.length st'.length → Sim K H' ι' st' → VRel K H' ι' st'.length d v → Q v H'
  | .ok (.x n) st' => ∀ H' ι', Ext H H' ι ι' st.length st'.length → Sim K H' ι' st' → E (.ref (ι' n)) none H'
  | .bad => False
theorem PostF.mono {K : PySem.W.Frag} {E : XK} {H : Hp} {ι : Nat → Addr} {st : Sto} {r : R Rs} {Q : VK} {H1 : Hp} {ι1 : Nat → Addr} {st1 : Sto} (P : PostF K E H ι st r Q) (E1 : Ext H H1 ι ι1 st.length st1.length) : PostF K E H1 ι1 st1 r Q := by
  cases r with
  | ok f st2 =>
    cases f with
    | v d => exact fun H' ι' v E' S' r' => P H' ι' v (E1.trans E') S' r'
    | x n => exact fun H' ι' E' S' => P H' ι' (E1.trans E') S'
  | bad => exact P
theorem PostF.val {K : PySem.W.Frag} {H : Hp} {ι : Nat → Addr} {st : Sto} {m : M Rs} {st1 : Sto} {Q : VK} {E : XK} (P : Post K H ι st (bnd m (fun r => ofO r.val?) st1) Q) : PostF K E H ι st (m st1) Q := by
  obtain ⟨r, st2, e, P⟩ := bnd_inv P
  rw [e]
  cases r with
  | v d => exact P
  | x n => exact P.elim
noncomputable def spF (K : PySem.W.Frag) (n : Nat) (f : List D → M Rs) : Sp := fun vs H Q E => vs.length = n ∧ ∃ ι st ds, Sim K H ι st ∧ VRels K H ι st.length ds vs ∧ PostF K E H ι st (f ds st) Q
structure Ctx (T : Tab) (g : Fns) (X : Cx) (sc : Scope) (N : List Str) : Prop where
  sc : X.env.scope = sc
  n : X.N = N
  nd : N.Nodup
  nm : ∀ x ∈ N, (x == ("__debug__" : Str)) = false ∧ (x == ("__classdict__" : Str)) = false
  calm : T.calm = true → X.calm = true
  un : X.A.units + 100 < cLine
  fns : ∀ i f, T.fns[i]? = some f → (f == ("__debug__" : Str)) = false ∧ ∃ a fd ps k, X.mg f = some (.ref a) ∧ PySem.W.keepIn X.K (.ref a) = true ∧ Binds X.K fd ps [] ∧ Room k X.A ∧ (∀ ds st, ds.length ≠ ps.length → g i ds st = R.bad) ∧ FnOk X.prog X.w X.K X.mg X.base (CXe X.prog X.w) k a fd ps (spF X.K ps.length (g i))
  blt : ∀ x ∈ blts, X.mg x = none
end Ev
set_option Elab.async false
set_option linter.all false
set_option maxRecDepth 100000
set_option maxHeartbeats 4000000
namespace Ev
open PySem PySem.Spec PyProof.Rows L2
noncomputable def iSeq (K : PySem.W.Frag) (tl : TE) : TI := fun σ H R => tl σ H fun x H1 => ∃ a, x = .ref a ∧ (((∃ xs, SqL K H1 a xs) ∧ R (Itl K a) H1) ∨ ((∃ xs, SqT K H1 a xs) ∧ R (Itt K a) H1))
theorem pi_seq {X : Cx} {tg l : Expr} {tl : TE} (hl : PE X l tl) : PI X tg l (iSeq X.K tl) := by
  intro pins s σ H R I h
  refine thn (hl pins s σ H _ I h) fun v s1 ⟨x, H1, I1, r1, q1⟩ => ?_
  obtain ⟨a, rfl, ⟨⟨xs, hq⟩, q⟩ | ⟨⟨xs, hq⟩, q⟩⟩ := q1
  · cases r1
    obtain ⟨its, rv, p, hz⟩ := I1.list hq
    refine wpAny_pyIter_list p.isList ?_
    refine ⟨s1.heap.objs.size, [s1.heap.objs.size], _, _, H1, rfl, I1.kept (t' := s1.toks) fun b o e => Heap.get?_push_of_some _ e, turn_list a _, ⟨_, Heap.get?_push_size _ rfl, rfl, rfl⟩, fun b hb => ?_, q⟩
    have e : b = s1.heap.objs.size := by simpa using hb
    subst e
    exact I1.fpOk (Nat.le_refl _) (I1.hok.fresh (Nat.le_refl _))
  · cases r1
    obtain ⟨its, rv, p, hz⟩ := I1.tuple hq
    refine wpAny_pyIter_tuple (show s1.heap.IsTuple a its.toArray from p) ?_
    refine ⟨s1.heap.objs.size, [s1.heap.objs.size], _, _, H1, rfl, I1.kept (t' := s1.toks) fun b o e => Heap.get?_push_of_some _ e, turn_tuple a _, ⟨_, Heap.get?_push_size _ rfl, rfl, rfl⟩, fun b hb => ?_, q⟩
    have e : b = s1.heap.objs.size := by simpa using hb
    subst e
    exact I1.fpOk (Nat.le_refl _) (I1.hok.fresh (Nat.le_refl _))
noncomputable def Corr (K : PySem.W.Frag) (J : It) (s : Src) (H0 : Hp) (ι0 : Nat → Addr) (m0 : Nat) : Prop := ∀ H ι st i, Ext H0 H ι0 ι m0 st.length → Sim K H ι st →
  (nxt s i st = some none → J.stop i H) ∧ ∀ x, nxt s i st = some (some x) → J.go i H ∧ ∀ v H', J.yld i H v H' → H' = H ∧ VRel K H ι st.length x v
theorem Corr.tup {K : PySem.W.Frag} {a : Addr} {H0 : Hp} {ι0 : Nat → Addr} {m0 : Nat} {xs : List D} {vs : List V} (h : SqT K H0 a vs) (r : VRels K H0 ι0 m0 xs vs) : Corr K (Itt K a) (.its xs) H0 ι0 m0 := fun H ι st i E S => by
  have l := r.length
  have h' := SqT.ext E.toExt0 h
  refine ⟨fun e => ?_, fun x e => ?_⟩
  · have e : xs[i]? = none := Option.some.inj e
    exact ⟨vs, h', by have := List.getElem?_eq_none_iff.mp e; omega⟩
  · have e : xs[i]? = some x := Option.some.inj e
    obtain ⟨v, hv, rv⟩ := (r.ext E).get e
    refine ⟨⟨vs, v, h', hv⟩, fun w H' y => ⟨y.1, ?_⟩⟩
    have := y.2 vs h'
    rw [hv] at this
    cases this
    exact rv
theorem Corr.fl {K : PySem.W.Frag} {a : Addr} {H0 : Hp} {ι0 : Nat → Addr} {m0 : Nat} {xs : List D} {vs : List V} (h : SqF K H0 a vs) (r : VRels K H0 ι0 m0 xs vs) : Corr K (Itl K a) (.its xs) H0 ι0 m0 := fun H ι st i E S => by
  have l := r.length
  have h' := (SqF.ext E.toExt0 h).sql
  refine ⟨fun e => ?_, fun x e => ?_⟩
  · have e : xs[i]? = none := Option.some.inj e
    exact ⟨vs, h', by have := List.getElem?_eq_none_iff.mp e; omega⟩
  · have e : xs[i]? = some x := Option.some.inj e
    obtain ⟨v, hv, rv⟩ := (r.ext E).get e
    refine ⟨⟨vs, v, h', hv⟩, fun w H' y => ⟨y.1, ?_⟩⟩
    have := y.2 vs h'
    rw [hv] at this
    cases this
    exact rv
theorem Corr.ref {K : PySem.W.Frag} {n : Nat} {H0 : Hp} {ι0 : Nat → Addr} {m0 : Nat} (hn : n < m0) : Corr K (Itl K (ι0 n)) (.at n) H0 ι0 m0 := fun H ι st i E S => by
  simp only [nxt]
  cases q : st[n]? with
  | none => exact ⟨fun e => (by cases e), fun x e => (by cases e)⟩
  | some o =>
    have ob := S.ob n o q
    rw [E.ad n hn] at ob
    cases o with
    | dtt _ _ => exact ⟨fun e => (by cases e), fun x e => (by cases e)⟩
    | lst xs =>
      obtain ⟨vs, h1, r⟩ := ob
      have l := r.length
      have h' : SqL K H (ι0 n) vs := SqL.of h1
      refine ⟨fun e => ?_, fun x e => ?_⟩
      · have e : xs[i]? = none := Option.some.inj e
        exact ⟨vs, h', by have := List.getElem?_eq_none_iff.mp e; omega⟩
      · have e : xs[i]? = some x := Option.some.inj e
        obtain ⟨v, hv, rv⟩ := r.get e
        refine ⟨⟨vs, v, h', hv⟩, fun w H' y => ⟨y.1, ?_⟩⟩
        have := y.2 vs h'
        rw [hv] at this
        cases this
        exact rv
theorem Corr.rng {K : PySem.W.Frag} {H0 : Hp} {ι0 : Nat → Addr} {m0 k : Nat} : Corr K (Itr 0 k) (.its (rangeD k)) H0 ι0 m0 := fun H ι st i E S => by
  refine ⟨fun e => ?_, fun x e => ?_⟩
  · have e : (rangeD k)[i]? = none := Option.some.inj e
    show k ≤ i
    have := List.getElem?_eq_none_iff.mp e
    simpa [rangeD] using this
  · have e : (rangeD k)[i]? = some x := Option.some.inj e
    have hi : i < k := by
      have := (List.getElem?_eq_some_iff.mp e).1
      simpa [rangeD] using this
    have hx : x = .int (i : Int) := by
      have : (rangeD k)[i]? = some (.int (i : Int)) := by simp [rangeD, hi]
      rw [this] at e
      exact (Option.some.inj e).symm
    subst hx
    refine ⟨hi, fun v H' y => ⟨y.1, ?_⟩⟩
    have : v = .int (0 + (i : Int)) := y.2
    rw [this, Int.zero_add]
    exact .int _
structure EltOk (K : PySem.W.Frag) (tc : TT) (te : TE) (f : Loc → D → M (Option D)) : Prop where
  turn : ∀ {H : Hp} {ι : Nat → Addr} {st st1 : Sto} {loc : Loc} {σ : L2.St} {x : D} {v : V} {o : Option D} {Q : Option V → Hp → Prop}, Sim K H ι st → LRel K H ι st.length loc σ → VRel K H ι st.length x v → f loc x st = .ok o st1 →
    (∀ H1 ι1 w, Ext H H1 ι ι1 st.length st1.length → Sim K H1 ι1 st1 → (match o, w with | some y, some z => VRel K H1 ι1 st1.length y z | none, none => True | _, _ => False) → Q w H1) →
    tc (some v :: σ) H fun b H3 => if b = true then te (some v :: σ) H3 fun y H4 => Q (some y) H4 else Q none H3
theorem comp_ok {K : PySem.W.Frag} {tc : TT} {te : TE} {f : Loc → D → M (Option D)} (ok : EltOk K tc te f) {J : It} {s : Src} {H : Hp} {ι : Nat → Addr} {st st0 : Sto} {H0 : Hp} {ι0 : Nat → Addr} {loc : Loc} {σ : L2.St} {Q : VK}
    (F : Corr K J s H ι st.length) (E0 : Ext H0 H ι0 ι st0.length st.length) (S : Sim K H ι st) (L : LRel K H ι st.length loc σ) (P : Post K H0 ι0 st0 (compS (f loc) s st) Q) : ∀ Dd, H Dd = none → ∃ W : Nat → Nat → List V → Hp → Prop, (∃ m, W 0 m [] (upd H Dd (.lst []))) ∧ ∀ i m ys H2, W i m ys H2 →
      (J.stop i H2 ∧ Q (.ref Dd) H2) ∨ (J.go i H2 ∧ ∃ N : List V → Hp → Prop, (∀ ys' H', N ys' H' → ∃ m', m' < m ∧ W (i + 1) m' ys' H') ∧
        ∀ x H', J.yld i H2 x H' → tc (some x :: σ) H' fun b H3 => if b = true then te (some x :: σ) H3 fun y H4 => H4 Dd = some (.lst ys) ∧ ys.length < sizeLine ∧ N (ys ++ [y]) (upd H4 Dd (.lst (ys ++ [y]))) else N ys H3) := by
  intro Dd hD
  have sz : sizeLine = 16777216 := sizeLine_eq
  unfold compS at P
  split at P
  case isFalse => exact P.elim
  case isTrue hz =>
  refine ⟨fun i m ys H2 => i + m ≤ 1000001 ∧ ∃ ι2 st2 acc, Ext H H2 ι ι2 st.length st2.length ∧ Sim K H2 ι2 st2 ∧ H2 Dd = some (.lst ys) ∧ (∀ n, n < st2.length → ι2 n ≠ Dd) ∧ VRels K H2 ι2 st2.length acc ys ∧ acc.length ≤ i ∧
      Post K H0 ι0 st0 (bnd (compN (f loc) s m i acc) alloc st2) Q, ⟨lenS s st + 1, by omega, ι, st, [], ?_, ?_, upd_same, fun n hn => ?_, .nil, Nat.le_refl _, P⟩, ?_⟩
  · exact ⟨⟨Nat.le_refl _, fun _ _ => rfl, fun b xs e => by rw [upd_ne (ne_of_none e hD)]; exact e, fun b ob u e => by rw [upd_ne (ne_of_none e hD)]; exact e⟩, fun b ob e k => ⟨by rw [upd_ne (ne_of_none e hD)]; exact e, k⟩⟩
  · refine ⟨S.inj, fun n o e => ?_⟩
    have hn : n < st.length := (List.getElem?_eq_some_iff.mp e).1
    have hne : ι n ≠ Dd := by obtain ⟨_, h, _⟩ := S.obj hn; exact ne_of_none h hD
    have E : Ext0 H (upd H Dd (.lst [])) ι ι st.length st.length := ⟨Nat.le_refl _, fun _ _ => rfl, fun b xs e => by rw [upd_ne (ne_of_none e hD)]; exact e, fun b ob u e => by rw [upd_ne (ne_of_none e hD)]; exact e⟩
    have old := S.ob n o e
    exact old.move E (upd_ne hne)
  · obtain ⟨_, h, _⟩ := S.obj hn; exact ne_of_none h hD
  · rintro i m ys H2 ⟨hm, ι2, st2, acc, E2, S2, hDd, ap, ra, la, P2⟩
    obtain ⟨zs, st9, e9, P9⟩ := bnd_inv P2
    obtain ⟨c1, c2⟩ := F H2 ι2 st2 i E2 S2
    cases m with
    | zero => cases e9
    | succ m =>
      simp only [compN] at e9
      cases en : nxt s i st2 with
      | none => rw [en] at e9; cases e9
      | some ox =>
        rw [en] at e9
        cases ox with
        | none =>
          have e9 : R.ok acc st2 = R.ok zs st9 := e9
          cases e9
          refine .inl ⟨c1 en, ?_⟩
          obtain ⟨ι', h1, h2, h3⟩ := S2.add hDd ap ra
          have l : (st2 ++ [O.lst acc]).length = st2.length + 1 := by simp
          refine P9 H2 ι' (.ref Dd) ?_ h3 ?_
          · rw [l]
            have E6 := E0.trans E2
            refine ⟨⟨Nat.le_succ_of_le E6.le, fun n hn => (h1 n (Nat.lt_of_lt_of_le hn E6.le)).trans (E6.ad n hn), E6.tp, E6.fz⟩, fun b ob e k => ?_⟩
            obtain ⟨g1, g2⟩ := E6.fr b ob e k
            refine ⟨g1, fun n hn => ?_⟩
            by_cases hn' : n = st2.length
            · rw [hn', h2]
              obtain ⟨g3, _⟩ := E0.fr b ob e k
              exact (ne_of_none g3 hD).symm
            · rw [h1 n (by omega)]; exact g2 n (by omega)
          · rw [← h2, l]; exact .ref (Nat.lt_succ_self _)
        | some x =>
          obtain ⟨hgo, hyl⟩ := c2 x en
          refine .inr ⟨hgo, fun ys' H' => ∃ ι2 st2 acc, Ext H H' ι ι2 st.length st2.length ∧ Sim K H' ι2 st2 ∧ H' Dd = some (.lst ys') ∧ (∀ n, n < st2.length → ι2 n ≠ Dd) ∧ VRels K H' ι2 st2.length acc ys' ∧ acc.length ≤ i + 1 ∧
            Post K H0 ι0 st0 (bnd (compN (f loc) s m (i + 1) acc) alloc st2) Q, fun ys' H' b => ⟨m, Nat.lt_succ_self _, by omega, b⟩, fun v H' y => ?_⟩
          obtain ⟨rfl, rv⟩ := hyl v H' y
          simp only [bnd] at e9
          cases e3 : f loc x st2 with
          | bad => rw [e3] at e9; cases e9
          | ok o st3 =>
            rw [e3] at e9
            refine ok.turn (Q := fun w H4 => match w with
              | some y => H4 Dd = some (.lst ys) ∧ ys.length < sizeLine ∧ ∃ ι2 st2 acc, Ext H (upd H4 Dd (.lst (ys ++ [y]))) ι ι2 st.length st2.length ∧ Sim K (upd H4 Dd (.lst (ys ++ [y]))) ι2 st2 ∧ upd H4 Dd (.lst (ys ++ [y])) Dd = some (.lst (ys ++ [y])) ∧ (∀ n, n < st2.length → ι2 n ≠ Dd) ∧ VRels K (upd H4 Dd (.lst (ys ++ [y]))) ι2 st2.length acc (ys ++ [y]) ∧ acc.length ≤ i + 1 ∧
                  Post K H0 ι0 st0 (bnd (compN (f loc) s m (i + 1) acc) alloc st2) Q
              | none => ∃ ι2 st2 acc, Ext H H4 ι ι2 st.length st2.length ∧ Sim K H4 ι2 st2 ∧ H4 Dd = some (.lst ys) ∧ (∀ n, n < st2.length → ι2 n ≠ Dd) ∧ VRels K H4 ι2 st2.length acc ys ∧ acc.length ≤ i + 1 ∧
                  Post K H0 ι0 st0 (bnd (compN (f loc) s m (i + 1) acc) alloc st2) Q) S2 (L.ext E2) rv e3 fun H4 ι4 w E4 S4 r4 => ?_
            obtain ⟨hDd4, ap4⟩ := E4.fr Dd _ hDd ap
            cases o with
            | none =>
              cases w with
              | some _ => exact r4.elim
              | none =>
                have e9' : compN (f loc) s m (i + 1) acc st3 = .ok zs st9 := e9
                refine ⟨ι4, st3, acc, E2.trans E4, S4, hDd4, ap4, ra.ext E4, by omega, ?_⟩
                unfold bnd
                rw [e9']
                exact P9
            | some yd =>
              cases w with
              | none => exact r4.elim
              | some yv =>
                have e9' : compN (f loc) s m (i + 1) (acc ++ [yd]) st3 = .ok zs st9 := e9
                have lra := ra.length
                refine ⟨hDd4, by omega, ι4, st3, acc ++ [yd], ?_⟩
                have E5 : Ext0 H4 (upd H4 Dd (.lst (ys ++ [yv]))) ι4 ι4 st3.length st3.length := ⟨Nat.le_refl _, fun _ _ => rfl, fun b xs e => by rw [upd_ne (ne_of e hDd4 (by intro z; cases z))]; exact e, fun b ob u e => by rw [upd_ne (ne_of e hDd4 (by intro z; cases z))]; exact e⟩
                refine ⟨?_, ⟨S4.inj, fun n ob e => ?_⟩, upd_same, ap4, VRels.ext0 E5 ((ra.ext E4).append (.cons r4 .nil)), by simp; omega, ?_⟩
                · have E6 := E2.trans E4
                  refine ⟨⟨E6.le, E6.ad, fun b xs e => E5.tp b xs (E6.tp b xs e), fun b ob u e => E5.fz b ob u (E6.fz b ob u e)⟩, fun b ob e k => ?_⟩
                  obtain ⟨g1, g2⟩ := E6.fr b ob e k
                  exact ⟨by rw [upd_ne (ne_of_none e hD)]; exact g1, g2⟩
                · have hn : n < st3.length := (List.getElem?_eq_some_iff.mp e).1
                  have old := S4.ob n ob e
                  exact old.move E5 (upd_ne (ap4 n hn))
                · unfold bnd
                  rw [e9']
                  exact P9
end Ev
set_option Elab.async false
set_option linter.all false
set_option maxRecDepth 100000
set_option maxHeartbeats 4000000
namespace Ev
open PySem PySem.Spec PyProof.Rows L2
noncomputable def CorrG (K : PySem.W.Frag) (J : It) (s : Src) (H0 : Hp) (ι0 : Nat → Addr) (m0 : Nat) : Prop := ∀ H ι st i, Ext H0 H ι0 ι m0 st.length → Sim K H ι st →
  (nxt s i st = some none → J.stop i H) ∧ ∀ x, nxt s i st = some (some x) → J.go i H ∧ ∀ v H', J.yld i H v H' → Ext H H' ι ι st.length st.length ∧ Sim K H' ι st ∧ VRel K H' ι st.length x v
theorem Sim.tup {K : PySem.W.Frag} {H : Hp} {ι : Nat → Addr} {st : Sto} (S : Sim K H ι st) {p : Addr} (hp : H p = none) {xs : List V} : Ext H (upd H p (.tup xs)) ι ι st.length st.length ∧ Sim K (upd H p (.tup xs)) ι st := by
  have E : Ext H (upd H p (.tup xs)) ι ι st.length st.length := ⟨⟨Nat.le_refl _, fun _ _ => rfl, fun b ys e => by rw [upd_ne (ne_of_none e hp)]; exact e, fun b ob u e => by rw [upd_ne (ne_of_none e hp)]; exact e⟩, fun b ob e k => ⟨by rw [upd_ne (ne_of_none e hp)]; exact e, k⟩⟩
  refine ⟨E, S.inj, fun n o e => ?_⟩
  have hn : n < st.length := (List.getElem?_eq_some_iff.mp e).1
  have hne : ι n ≠ p := by obtain ⟨_, h, _⟩ := S.obj hn; exact ne_of_none h hp
  have old := S.ob n o e
  exact old.move E.toExt0 (upd_ne hne)
structure EltG (K : PySem.W.Frag) (tt : V → Hp → (Option V → Hp → Prop) → Prop) (f : D → M (Option D)) (H0 : Hp) (ι0 : Nat → Addr) (m0 : Nat) : Prop where
  turn : ∀ {H : Hp} {ι : Nat → Addr} {st st1 : Sto} {x : D} {v : V} {o : Option D} {Q : Option V → Hp → Prop}, Ext H0 H ι0 ι m0 st.length → Sim K H ι st → VRel K H ι st.length x v → f x st = .ok o st1 →
    (∀ H1 ι1 w, Ext H H1 ι ι1 st.length st1.length → Sim K H1 ι1 st1 → (match o, w with | some y, some z => VRel K H1 ι1 st1.length y z | none, none => True | _, _ => False) → Q w H1) → tt v H Q
theorem comp_okG {K : PySem.W.Frag} {tt : V → Hp → (Option V → Hp → Prop) → Prop} {f : D → M (Option D)} {J : It} {s : Src} {H : Hp} {ι : Nat → Addr} {st st0 : Sto} {H0 : Hp} {ι0 : Nat → Addr} {Q : VK} (ok : EltG K tt f H ι st.length)
    (F : CorrG K J s H ι st.length) (E0 : Ext H0 H ι0 ι st0.length st.length) (S : Sim K H ι st) (P : Post K H0 ι0 st0 (compS f s st) Q) : ∀ Dd, H Dd = none → ∃ W : Nat → Nat → List V → Hp → Prop, (∃ m, W 0 m [] (upd H Dd (.lst []))) ∧ ∀ i m ys H2, W i m ys H2 →
      (J.stop i H2 ∧ Q (.ref Dd) H2) ∨ (J.go i H2 ∧ ∃ N : List V → Hp → Prop, (∀ ys' H', N ys' H' → ∃ m', m' < m ∧ W (i + 1) m' ys' H') ∧
        ∀ x H', J.yld i H2 x H' → tt x H' fun w H4 => match w with
          | some y => H4 Dd = some (.lst ys) ∧ ys.length < sizeLine ∧ N (ys ++ [y]) (upd H4 Dd (.lst (ys ++ [y])))
          | none => N ys H4) := by
  intro Dd hD
  have sz : sizeLine = 16777216 := sizeLine_eq
  unfold compS at P
  split at P
  case isFalse => exact P.elim
  case isTrue hz =>
  refine ⟨fun i m ys H2 => i + m ≤ 1000001 ∧ ∃ ι2 st2 acc, Ext H H2 ι ι2 st.length st2.length ∧ Sim K H2 ι2 st2 ∧ H2 Dd = some (.lst ys) ∧ (∀ n, n < st2.length → ι2 n ≠ Dd) ∧ VRels K H2 ι2 st2.length acc ys ∧ acc.length ≤ i ∧
      Post K H0 ι0 st0 (bnd (compN f s m i acc) alloc st2) Q, ⟨lenS s st + 1, by omega, ι, st, [], ?_, ?_, upd_same, fun n hn => ?_, .nil, Nat.le_refl _, P⟩, ?_⟩
  · exact ⟨⟨Nat.le_refl _, fun _ _ => rfl, fun b xs e => by rw [upd_ne (ne_of_none e hD)]; exact e, fun b ob u e => by rw [upd_ne (ne_of_none e hD)]; exact e⟩, fun b ob e k => ⟨by rw [upd_ne (ne_of_none e hD)]; exact e, k⟩⟩
  · refine ⟨S.inj, fun n o e => ?_⟩
    have hn : n < st.length := (List.getElem?_eq_some_iff.mp e).1
    have hne : ι n ≠ Dd := by obtain ⟨_, h, _⟩ := S.obj hn; exact ne_of_none h hD
    have E : Ext0 H (upd H Dd (.lst [])) ι ι st.length st.length := ⟨Nat.le_refl _, fun _ _ => rfl, fun b xs e => by rw [upd_ne (ne_of_none e hD)]; exact e, fun b ob u e => by rw [upd_ne (ne_of_none e hD)]; exact e⟩
    have old := S.ob n o e
    exact old.move E (upd_ne hne)
  · obtain ⟨_, h, _⟩ := S.obj hn; exact ne_of_none h hD
  · rintro i m ys H2 ⟨hm, ι2, st2, acc, E2, S2, hDd, ap, ra, la, P2⟩
    obtain ⟨zs, st9, e9, P9⟩ := bnd_inv P2
    obtain ⟨c1, c2⟩ := F H2 ι2 st2 i E2 S2
    cases m with
    | zero => cases e9
    | succ m =>
      simp only [compN] at e9
      cases en : nxt s i st2 with
      | none => rw [en] at e9; cases e9
      | some ox =>
        rw [en] at e9
        cases ox with
        | none =>
          have e9 : R.ok acc st2 = R.ok zs st9 := e9
          cases e9
          refine .inl ⟨c1 en, ?_⟩
          obtain ⟨ι', h1, h2, h3⟩ := S2.add hDd ap ra
          have l : (st2 ++ [O.lst acc]).length = st2.length + 1 := by simp
          refine P9 H2 ι' (.ref Dd) ?_ h3 ?_
          · rw [l]
            have E6 := E0.trans E2
            refine ⟨⟨Nat.le_succ_of_le E6.le, fun n hn => (h1 n (Nat.lt_of_lt_of_le hn E6.le)).trans (E6.ad n hn), E6.tp, E6.fz⟩, fun b ob e k => ?_⟩
            obtain ⟨g1, g2⟩ := E6.fr b ob e k
            refine ⟨g1, fun n hn => ?_⟩
            by_cases hn' : n = st2.length
            · rw [hn', h2]
              obtain ⟨g3, _⟩ := E0.fr b ob e k
              exact (ne_of_none g3 hD).symm
            · rw [h1 n (by omega)]; exact g2 n (by omega)
          · rw [← h2, l]; exact .ref (Nat.lt_succ_self _)
        | some x =>
          obtain ⟨hgo, hyl⟩ := c2 x en
          refine .inr ⟨hgo, fun ys' H' => ∃ ι2 st2 acc, Ext H H' ι ι2 st.length st2.length ∧ Sim K H' ι2 st2 ∧ H' Dd = some (.lst ys') ∧ (∀ n, n < st2.length → ι2 n ≠ Dd) ∧ VRels K H' ι2 st2.length acc ys' ∧ acc.length ≤ i + 1 ∧
            Post K H0 ι0 st0 (bnd (compN f s m (i + 1) acc) alloc st2) Q, fun ys' H' b => ⟨m, Nat.lt_succ_self _, by omega, b⟩, fun v H' y => ?_⟩
          obtain ⟨EY, SY, rv⟩ := hyl v H' y
          obtain ⟨hDd, _⟩ := EY.fr Dd _ hDd ap
          replace E2 := E2.trans EY
          replace ra := ra.ext EY
          simp only [bnd] at e9
          cases e3 : f x st2 with
          | bad => rw [e3] at e9; cases e9
          | ok o st3 =>
            rw [e3] at e9
            refine ok.turn (Q := fun w H4 => match w with
              | some y => H4 Dd = some (.lst ys) ∧ ys.length < sizeLine ∧ ∃ ι2 st2 acc, Ext H (upd H4 Dd (.lst (ys ++ [y]))) ι ι2 st.length st2.length ∧ Sim K (upd H4 Dd (.lst (ys ++ [y]))) ι2 st2 ∧ upd H4 Dd (.lst (ys ++ [y])) Dd = some (.lst (ys ++ [y])) ∧ (∀ n, n < st2.length → ι2 n ≠ Dd) ∧ VRels K (upd H4 Dd (.lst (ys ++ [y]))) ι2 st2.length acc (ys ++ [y]) ∧ acc.length ≤ i + 1 ∧
                  Post K H0 ι0 st0 (bnd (compN f s m (i + 1) acc) alloc st2) Q
              | none => ∃ ι2 st2 acc, Ext H H4 ι ι2 st.length st2.length ∧ Sim K H4 ι2 st2 ∧ H4 Dd = some (.lst ys) ∧ (∀ n, n < st2.length → ι2 n ≠ Dd) ∧ VRels K H4 ι2 st2.length acc ys ∧ acc.length ≤ i + 1 ∧
                  Post K H0 ι0 st0 (bnd (compN f s m (i + 1) acc) alloc st2) Q) E2 SY rv e3 fun H4 ι4 w E4 S4 r4 => ?_
            obtain ⟨hDd4, ap4⟩ := E4.fr Dd _ hDd ap
            cases o with
            | none =>
              cases w with
              | some _ => exact r4.elim
              | none =>
                have e9' : compN f s m (i + 1) acc st3 = .ok zs st9 := e9
                refine ⟨ι4, st3, acc, E2.trans E4, S4, hDd4, ap4, ra.ext E4, by omega, ?_⟩
                unfold bnd
                rw [e9']
                exact P9
            | some yd =>
              cases w with
              | none => exact r4.elim
              | some yv =>
                have e9' : compN f s m (i + 1) (acc ++ [yd]) st3 = .ok zs st9 := e9
                have lra := ra.length
                refine ⟨hDd4, by omega, ι4, st3, acc ++ [yd], ?_⟩
                have E5 : Ext0 H4 (upd H4 Dd (.lst (ys ++ [yv]))) ι4 ι4 st3.length st3.length := ⟨Nat.le_refl _, fun _ _ => rfl, fun b xs e => by rw [upd_ne (ne_of e hDd4 (by intro z; cases z))]; exact e, fun b ob u e => by rw [upd_ne (ne_of e hDd4 (by intro z; cases z))]; exact e⟩
                refine ⟨?_, ⟨S4.inj, fun n ob e => ?_⟩, upd_same, ap4, VRels.ext0 E5 ((ra.ext E4).append (.cons r4 .nil)), by simp; omega, ?_⟩
                · have E6 := E2.trans E4
                  refine ⟨⟨E6.le, E6.ad, fun b xs e => E5.tp b xs (E6.tp b xs e), fun b ob u e => E5.fz b ob u (E6.fz b ob u e)⟩, fun b ob e k => ?_⟩
                  obtain ⟨g1, g2⟩ := E6.fr b ob e k
                  exact ⟨by rw [upd_ne (ne_of_none e hD)]; exact g1, g2⟩
                · have hn : n < st3.length := (List.getElem?_eq_some_iff.mp e).1
                  have old := S4.ob n ob e
                  exact old.move E5 (upd_ne (ap4 n hn))
                · unfold bnd
                  rw [e9']
                  exact P9
end Ev
set_option Elab.async false
set_option linter.all false
set_option maxRecDepth 100000
set_option maxHeartbeats 4000000
namespace Ev
open PySem PySem.Spec PyProof.Rows L2
section
variable {T : Tab} {g : Fns} {X : Cx} {sc : Scope} {N : List Str} {pos p2 : Pos}
theorem pt_plain {e : Expr} {m : Loc → M D} (h : PE X e (tE X.K m)) (he : ∀ whole, isTrue e X.env whole = (do let v ← whole; standAt e.pos; holding [v] (truthy v))) : PT X e (tT X.K m) :=
  (pt_val h he).imp fun σ H Q ⟨ι, st, loc, S, L, P⟩ => by
    obtain ⟨b, st1, e1, k⟩ := P.inv
    exact tE_of S L e1 fun H1 ι1 v E1 S1 r1 => by cases r1; exact ⟨b, rfl, k H1 ι1 E1 S1⟩
theorem e_const {d : D} {v : V} {e : Expr} (h : PE X e (tC v)) (r : ∀ H ι m, VRel X.K H ι m d v) : PE X e (tE X.K (run g (.c d))) :=
  h.imp fun σ H Q ⟨ι, st, loc, S, L, P⟩ => by
    rw [run] at P
    exact P.same S (r H ι _)
theorem e_var {x : Str} {i : Nat} (C : Ctx T g X sc N) (hi : ixOf N x = some i) (hv : Vis sc x) : PE X (.Name x pos) (tE X.K (run g (.v i))) := by
  have hN : X.N[i]? = some x := by rw [C.n]; exact ixOf_get hi
  obtain ⟨h1, h2⟩ := C.nm x (List.mem_of_getElem? (ixOf_get hi))
  refine (pe_var hN (by rw [C.sc]; exact hv) h1 h2).imp fun σ H Q ⟨ι, st, loc, S, L, P⟩ => ?_
  rw [run] at P
  unfold ofO at P
  cases e : loc[i]? with
  | none => rw [e] at P; exact P.elim
  | some o =>
    rw [e] at P
    cases o with
    | none => exact P.elim
    | some d =>
      obtain ⟨v, hv, r⟩ := L.at_ i d e
      exact ⟨v, hv, P.same S r⟩
theorem e_tup {es : List Expr} {xs : List Ex} {k : Nat} (ha : PA X es (tA X.K (runs g xs))) (hz : es.length ≤ 1000) (hl : es.length = xs.length) : PE X (.Tuple es k pos) (tE X.K (run g (.tup xs))) :=
  (pe_tup ha).imp fun σ H Q ⟨ι, st, loc, S, L, P⟩ => by
    rw [run] at P
    obtain ⟨ds, st1, e1, P⟩ := bnd_inv P
    have sz : sizeLine = 16777216 := sizeLine_eq
    refine tA_of S L e1 fun H1 ι1 vs E1 S1 r1 => ⟨?_, (P.mono E1).tup S1 r1⟩
    have := runs_len e1
    have l := r1.length
    omega
where
  runs_len : ∀ {xs : List Ex} {loc : Loc} {st st1 : Sto} {ds : List D}, runs g xs loc st = .ok ds st1 → ds.length = xs.length
  | [], loc, st, st1, ds, e => by rw [runs] at e; cases e; rfl
  | x :: xs, loc, st, st1, ds, e => by
    rw [runs] at e
    simp only [bnd, ret] at e
    split at e
    · split at e
      · rename_i e2
        cases e
        rw [List.length_cons, List.length_cons, runs_len e2]
      · cases e
    · cases e
theorem e_lst {es : List Expr} {xs : List Ex} (ha : PA X es (tA X.K (runs g xs))) (hz : es.length ≤ 1000) (hl : es.length = xs.length) : PE X (.List es pos) (tE X.K (run g (.lst xs))) :=
  (pe_lst ha).imp fun σ H Q ⟨ι, st, loc, S, L, P⟩ => by
    rw [run] at P
    obtain ⟨ds, st1, e1, P⟩ := bnd_inv P
    have sz : sizeLine = 16777216 := sizeLine_eq
    refine tA_of S L e1 fun H1 ι1 vs E1 S1 r1 => ⟨?_, (P.mono E1).alloc S1 r1⟩
    have := e_tup.runs_len e1
    have l := r1.length
    omega
theorem rd_op {a b : Ex} {f : D → D → M D} {σ : L2.St} {H : Hp} {Q : VK} (h : tE X.K (fun loc => bnd (run g a loc) fun x => bnd (run g b loc) fun y => f x y) σ H Q) : tOp (rD X.K f) (tE X.K (run g a)) (tE X.K (run g b)) σ H Q := by
  obtain ⟨ι, st, loc, S, L, P⟩ := h
  obtain ⟨x, st1, e1, P⟩ := bnd_inv P
  obtain ⟨y, st2, e2, P⟩ := bnd_inv P
  exact tE_of S L e1 fun H1 ι1 vx E1 S1 r1 => tE_of S1 (L.ext E1) e2 fun H2 ι2 vy E2 S2 r2 => ⟨ι2, st2, x, y, S2, r1.ext E2, r2, P.mono (E1.trans E2)⟩
theorem e_bin {a b : Expr} {a' b' : Ex} {op : Operator} {o : Bo} (ho : boOf op = some o) (ha : PE X a (tE X.K (run g a'))) (hb : PE X b (tE X.K (run g b'))) : PE X (.BinOp a op b pos) (tE X.K (run g (.bin o a' b'))) := by
  have e : op = o.op := by cases op <;> cases ho <;> rfl
  subst e
  refine (pe_op (op_bin o) ha hb).imp fun σ H Q h => rd_op ?_
  obtain ⟨ι, st, loc, S, L, P⟩ := h
  rw [run] at P
  exact ⟨ι, st, loc, S, L, P⟩
theorem e_not {a : Expr} {a' : Ex} (ha : PE X a (tE X.K (run g a'))) : PE X (.UnaryOp .Not a pos) (tE X.K (run g (.not a'))) :=
  (pe_not ha).imp fun σ H Q ⟨ι, st, loc, S, L, P⟩ => by
    rw [run] at P
    obtain ⟨x, st1, e1, P⟩ := bnd_inv P
    obtain ⟨i, st2, e2, P⟩ := bnd_inv P
    obtain ⟨e3, rfl⟩ := ofO_inv e2
    have := bool?_inv e3
    subst this
    exact tE_of S L e1 fun H1 ι1 v E1 S1 r1 => by cases r1; exact ⟨i, rfl, (P.mono E1).same S1 (.bl _)⟩
theorem t_not {a : Expr} {a' : Ex} (ha : PT X a (tT X.K (run g a'))) : PT X (.UnaryOp .Not a pos) (tT X.K (run g (.not a'))) :=
  (pt_not ha).imp fun σ H Q ⟨ι, st, loc, S, L, P⟩ => by
    rw [run] at P
    obtain ⟨x, st1, e1, P⟩ := bnd_invT P
    obtain ⟨i, st2, e2, P⟩ := bnd_invT P
    obtain ⟨e3, rfl⟩ := ofO_inv e2
    have := bool?_inv e3
    subst this
    exact tT_of S L e1 fun H1 ι1 E1 S1 => P H1 ι1 E1 S1
theorem e_and {a b : Expr} {r : List Expr} {a' b' : Ex} (ha : PE X a (tE X.K (run g a'))) (hb : PE X (.BoolOp .And (b :: r) pos) (tE X.K (run g b'))) : PE X (.BoolOp .And (a :: b :: r) pos) (tE X.K (run g (.and a' b'))) :=
  (pe_and ha hb).imp fun σ H Q ⟨ι, st, loc, S, L, P⟩ => by
    rw [run] at P
    obtain ⟨x, st1, e1, P⟩ := bnd_inv P
    obtain ⟨i, st2, e2, P⟩ := bnd_inv P
    obtain ⟨e3, rfl⟩ := ofO_inv e2
    have := bool?_inv e3
    subst this
    refine tE_of S L e1 fun H1 ι1 v E1 S1 r1 => ?_
    cases r1
    refine ⟨i, rfl, ?_⟩
    cases i with
    | true => rw [if_pos rfl]; exact ⟨ι1, st2, loc, S1, L.ext E1, P.mono E1⟩
    | false => rw [if_neg Bool.false_ne_true]; exact (P.mono E1).same S1 (.bl false)
theorem e_or {a b : Expr} {r : List Expr} {a' b' : Ex} (ha : PE X a (tE X.K (run g a'))) (hb : PE X (.BoolOp .Or (b :: r) pos) (tE X.K (run g b'))) : PE X (.BoolOp .Or (a :: b :: r) pos) (tE X.K (run g (.or a' b'))) :=
  (pe_or ha hb).imp fun σ H Q ⟨ι, st, loc, S, L, P⟩ => by
    rw [run] at P
    obtain ⟨x, st1, e1, P⟩ := bnd_inv P
    obtain ⟨i, st2, e2, P⟩ := bnd_inv P
    obtain ⟨e3, rfl⟩ := ofO_inv e2
    have := bool?_inv e3
    subst this
    refine tE_of S L e1 fun H1 ι1 v E1 S1 r1 => ?_
    cases r1
    refine ⟨i, rfl, ?_⟩
    cases i with
    | false => rw [if_neg Bool.false_ne_true]; exact ⟨ι1, st2, loc, S1, L.ext E1, P.mono E1⟩
    | true => rw [if_pos rfl]; exact (P.mono E1).same S1 (.bl true)
theorem pw_of {op : BoolOp} {es : List Expr} {t : TT} (h : PT X (.BoolOp op es pos) t) : PW X (.BoolOp op es pos) t := fun wh pins s σ H Q I q => by
  have := h pins s σ H Q I q
  exact this
theorem t_and {a b : Expr} {r : List Expr} {a' b' : Ex} (ha : PT X a (tT X.K (run g a'))) (hb : PT X (.BoolOp .And (b :: r) pos) (tT X.K (run g b'))) : PT X (.BoolOp .And (a :: b :: r) pos) (tT X.K (run g (.and a' b'))) :=
  (pw_and ha (pw_of hb)).pt.imp fun σ H Q ⟨ι, st, loc, S, L, P⟩ => by
    rw [run] at P
    obtain ⟨x, st1, e1, P⟩ := bnd_invT P
    obtain ⟨i, st2, e2, P⟩ := bnd_invT P
    obtain ⟨e3, rfl⟩ := ofO_inv e2
    have := bool?_inv e3
    subst this
    refine tT_of S L e1 fun H1 ι1 E1 S1 => ?_
    cases i with
    | true => rw [if_pos rfl]; exact ⟨ι1, st2, loc, S1, L.ext E1, P.mono E1⟩
    | false => rw [if_neg Bool.false_ne_true]; exact P H1 ι1 E1 S1
theorem t_or {a b : Expr} {r : List Expr} {a' b' : Ex} (ha : PT X a (tT X.K (run g a'))) (hb : PT X (.BoolOp .Or (b :: r) pos) (tT X.K (run g b'))) : PT X (.BoolOp .Or (a :: b :: r) pos) (tT X.K (run g (.or a' b'))) :=
  (pw_or ha (pw_of hb)).pt.imp fun σ H Q ⟨ι, st, loc, S, L, P⟩ => by
    rw [run] at P
    obtain ⟨x, st1, e1, P⟩ := bnd_invT P
    obtain ⟨i, st2, e2, P⟩ := bnd_invT P
    obtain ⟨e3, rfl⟩ := ofO_inv e2
    have := bool?_inv e3
    subst this
    refine tT_of S L e1 fun H1 ι1 E1 S1 => ?_
    cases i with
    | false => rw [if_neg Bool.false_ne_true]; exact ⟨ι1, st2, loc, S1, L.ext E1, P.mono E1⟩
    | true => rw [if_pos rfl]; exact P H1 ι1 E1 S1
theorem t_one {op : BoolOp} {a : Expr} {t : TT} (ha : PT X a t) : PT X (.BoolOp op [a] pos) t := by
  cases op with
  | And => exact (pw_and1 ha).pt
  | Or => exact (pw_or1 ha).pt
theorem e_cmp (hu : X.A.units + 100 < cLine) {a b : Expr} {a' b' : Ex} {op : CmpOp} (hm : behindInMarks op b = false) (ha : PE X a (tE X.K (run g a'))) (hb : PE X b (tE X.K (run g b'))) : PE X (.Compare a [op] [b] pos) (tE X.K (run g (.cmp op a' b'))) :=
  (pe_cmpR (op_cmp hu op) ha hb hm).imp fun σ H Q ⟨ι, st, loc, S, L, P⟩ => by
    rw [run] at P
    exact rd_op ⟨ι, st, loc, S, L, P⟩
theorem test_of {m : Loc → M D} {t : TE} {σ : L2.St} {H : Hp} {Q : Bool → Hp → Prop} (k : ∀ Q', tE X.K m σ H Q' → t σ H Q') (h : tT X.K m σ H Q) : tTest t σ H Q := by
  refine k _ ?_
  obtain ⟨ι, st, loc, S, L, P⟩ := h
  obtain ⟨b, st1, e, q⟩ := P.inv
  exact tE_of S L e fun H1 ι1 v E1 S1 r1 => by cases r1; exact ⟨b, rfl, q H1 ι1 E1 S1⟩
theorem t_cmp (hu : X.A.units + 100 < cLine) {a b : Expr} {a' b' : Ex} {op : CmpOp} (hm : behindInMarks op b = false) (ha : PE X a (tE X.K (run g a'))) (hb : PE X b (tE X.K (run g b'))) : PT X (.Compare a [op] [b] pos) (tT X.K (run g (.cmp op a' b'))) :=
  (pt_cmpR (op_cmp hu op) ha hb hm).imp fun σ H Q h => test_of (fun Q' ⟨ι, st, loc, S, L, P⟩ => by
    rw [run] at P
    exact rd_op ⟨ι, st, loc, S, L, P⟩) h
theorem e_ix {a b : Expr} {a' b' : Ex} (hu : X.A.units + 100 < cLine) (hs : plainSub b = true) (ha : PE X a (tE X.K (run g a'))) (hb : PE X b (tE X.K (run g b'))) : PE X (.Subscript a b pos) (tE X.K (run g (.ix a' b'))) :=
  (pe_ix (ix_D hu) ha hb (fun o i => by cases b <;> first | rfl | cases hs)).imp fun σ H Q ⟨ι, st, loc, S, L, P⟩ => by
    rw [run] at P
    exact rd_op ⟨ι, st, loc, S, L, P⟩
theorem e_sl {a : Expr} {lo hi : Option Expr} {a' l' h' : Ex} {hl hh : Bool} {tl th : TO} (ha : PE X a (tE X.K (run g a'))) (hlo : PO X lo tl) (hhi : PO X hi th)
    (kl : ∀ {H : Hp} {ι : Nat → Addr} {st st1 : Sto} {loc : Loc} {σ : L2.St} {o : Option Int} {Q : Option Int → Hp → Prop}, Sim X.K H ι st → LRel X.K H ι st.length loc σ → (if hl = true then bnd (run g l' loc) fun z => bnd (ofO (int? z)) fun i => ret (some i) else ret none) st = R.ok o st1 →
      (∀ H1 ι1, Ext H H1 ι ι1 st.length st1.length → Sim X.K H1 ι1 st1 → Q o H1) → tl σ H Q)
    (kh : ∀ {H : Hp} {ι : Nat → Addr} {st st1 : Sto} {loc : Loc} {σ : L2.St} {o : Option Int} {Q : Option Int → Hp → Prop}, Sim X.K H ι st → LRel X.K H ι st.length loc σ → (if hh = true then bnd (run g h' loc) fun z => bnd (ofO (int? z)) fun i => ret (some i) else ret none) st = R.ok o st1 →
      (∀ H1 ι1, Ext H H1 ι ι1 st.length st1.length → Sim X.K H1 ι1 st1 → Q o H1) → th σ H Q) : PE X (.Subscript a (.Slice lo hi none p2) pos) (tE X.K (run g (.sl a' l' h' hl hh))) :=
  (pe_slice sl_D ha hlo hhi).imp fun σ H Q ⟨ι, st, loc, S, L, P⟩ => by
    rw [run] at P
    obtain ⟨x, st1, e1, P⟩ := bnd_inv P
    obtain ⟨ol, st2, e2, P⟩ := bnd_inv P
    obtain ⟨oh, st3, e3, P⟩ := bnd_inv P
    refine tE_of S L e1 fun H1 ι1 vx E1 S1 r1 => kl S1 (L.ext E1) e2 fun H2 ι2 E2 S2 => kh S2 ((L.ext E1).ext E2) e3 fun H3 ι3 E3 S3 => ⟨ι3, st3, x, S3, (r1.ext E2).ext E3, P.mono ((E1.trans E2).trans E3)⟩
theorem part_no {l' : Ex} {H : Hp} {ι : Nat → Addr} {st st1 : Sto} {loc : Loc} {σ : L2.St} {o : Option Int} {Q : Option Int → Hp → Prop} (S : Sim X.K H ι st) (L : LRel X.K H ι st.length loc σ) (e : (if false = true then bnd (run g l' loc) fun z => bnd (ofO (int? z)) fun i => ret (some i) else ret none) st = R.ok o st1)
    (k : ∀ H1 ι1, Ext H H1 ι ι1 st.length st1.length → Sim X.K H1 ι1 st1 → Q o H1) : tNoPart σ H Q := by
  rw [if_neg Bool.false_ne_true] at e
  cases e
  exact k H ι (Ext.refl _ _ _) S
theorem part_yes {l' : Ex} {H : Hp} {ι : Nat → Addr} {st st1 : Sto} {loc : Loc} {σ : L2.St} {o : Option Int} {Q : Option Int → Hp → Prop} (S : Sim X.K H ι st) (L : LRel X.K H ι st.length loc σ) (e : (if true = true then bnd (run g l' loc) fun z => bnd (ofO (int? z)) fun i => ret (some i) else ret none) st = R.ok o st1)
    (k : ∀ H1 ι1, Ext H H1 ι ι1 st.length st1.length → Sim X.K H1 ι1 st1 → Q o H1) : tPart (tE X.K (run g l')) σ H Q := by
  rw [if_pos rfl] at e
  simp only [bnd, ret] at e
  cases e1 : run g l' loc st with
  | bad => rw [e1] at e; cases e
  | ok z st2 =>
    rw [e1] at e
    simp only [ofO] at e
    cases e2 : int? z with
    | none => rw [e2] at e; cases e
    | some i =>
      rw [e2] at e
      cases e
      have := int?_inv e2
      subst this
      exact tE_of S L e1 fun H1 ι1 v E1 S1 r1 => by cases r1; exact ⟨i, rfl, k H1 ι1 E1 S1⟩
theorem e_fn {f : Str} {i : Nat} {a : Expr} {as : List Expr} {xs : List Ex} (C : Ctx T g X sc N) (hg : isGlob sc f = true) (hi : ixOf T.fns f = some i) (ha : PA X (a :: as) (tA X.K (runs g xs))) (hl : (a :: as).length = xs.length)
    (he : starEach (a :: as) X.env = (false, eval a X.env) :: starEach as X.env) (hpl : (backTo pos (starEach as X.env)).any (·.1) = false) : PE X (.Call (.Name f p2) (a :: as) [] pos) (tE X.K (run g (.fn i xs))) := by
  obtain ⟨hd, ad, fd, ps, k, hm, kp, hb, hr, har, F⟩ := C.fns i f (ixOf_get hi)
  have hgl : Gl X f := by
    show X.env.scope.names.lookup f = some .globalImplicit
    rw [C.sc]
    simpa [isGlob] using hg
  refine (pe_call F hr hgl hm kp hb .nil passE ha hd he hpl).imp fun σ H Q ⟨ι, st, loc, S, L, P⟩ => ?_
  rw [run] at P
  obtain ⟨ds, st1, e1, P⟩ := bnd_inv P
  refine tA_of S L e1 fun H1 ι1 vs E1 S1 r1 => ?_
  rw [List.append_nil]
  refine ⟨?_, ι1, st1, ds, S1, r1, (PostF.val P).mono E1⟩
  by_cases hps : ds.length = ps.length
  · rw [← r1.length]; exact hps
  · have P2 := PostF.val (E := E0) P
    rw [har ds st1 hps] at P2; exact P2.elim
theorem e_bt {f : Str} {b : Bt} {a : Expr} {as : List Expr} {xs : List Ex} (C : Ctx T g X sc N) (hcm : T.calm = true) (hg : isGlob sc f = true) (hb : btOf.lookup f = some b) (ha : PA X (a :: as) (tA X.K (runs g xs)))
    (he : starEach (a :: as) X.env = (false, eval a X.env) :: starEach as X.env) (hpl : (backTo pos (starEach as X.env)).any (·.1) = false) : PE X (.Call (.Name f p2) (a :: as) [] pos) (tE X.K (run g (.bt b xs))) := by
  have hgl : Gl X f := by
    show X.env.scope.names.lookup f = some .globalImplicit
    rw [C.sc]
    simpa [isGlob] using hg
  have hbl : ∀ x : Str, x ∈ blts → X.mg x = none := C.blt
  have key : PE X (.Call (.Name f p2) (a :: as) [] pos) (tCB (rB X.K b) (tA X.K (runs g xs))) := by
    have hmem := PySem.mem_of_lookup hb
    have cc : CallR X b.val (rB X.K b) := call_D (C.calm hcm) b
    simp only [btOf, List.mem_cons, List.mem_nil_iff, Prod.mk.injEq, or_false] at hmem
    rcases hmem with ⟨rfl, rfl⟩ | ⟨rfl, rfl⟩ | ⟨rfl, rfl⟩ | ⟨rfl, rfl⟩ | ⟨rfl, rfl⟩
    · exact pe_callB cc hgl (hbl _ (by decide +kernel)) PySem.boot_len ha (by decide +kernel) (by decide +kernel) he hpl
    · exact pe_callTy cc hgl (hbl _ (by decide +kernel)) (by decide +kernel) ha (by decide +kernel) (by decide +kernel) he hpl
    · exact pe_callTy cc hgl (hbl _ (by decide +kernel)) (by decide +kernel) ha (by decide +kernel) (by decide +kernel) he hpl
    · exact pe_callB cc hgl (hbl _ (by decide +kernel)) (by decide +kernel) ha (by decide +kernel) (by decide +kernel) he hpl
    · exact pe_callB cc hgl (hbl _ (by decide +kernel)) (by decide +kernel) ha (by decide +kernel) (by decide +kernel) he hpl
  refine key.imp fun σ H Q ⟨ι, st, loc, S, L, P⟩ => ?_
  rw [run] at P
  obtain ⟨ds, st1, e1, P⟩ := bnd_inv P
  exact tA_of S L e1 fun H1 ι1 vs E1 S1 r1 => ⟨ι1, st1, ds, S1, r1, P.mono E1⟩
theorem ty_boot {t : Str} {ty : Ty} (h : tyOf.lookup t = some ty) : bootBuiltins t = some (.type ty.name) ∧ t ≠ "__name__" ∧ (t == ("__debug__" : Str)) = false ∧ t ∈ blts := by
  have hmem := PySem.mem_of_lookup h
  simp only [tyOf, List.mem_cons, List.mem_nil_iff, Prod.mk.injEq, or_false] at hmem
  rcases hmem with ⟨rfl, rfl⟩ | ⟨rfl, rfl⟩ <;> exact ⟨by decide +kernel, by decide +kernel, by decide +kernel, by decide +kernel⟩
theorem e_isi {t : Str} {ty : Ty} {a : Expr} {a' : Ex} {p3 : Pos} (C : Ctx T g X sc N) (hg : isGlob sc "isinstance" = true) (hgt : isGlob sc t = true) (ht : tyOf.lookup t = some ty) (ha : PE X a (tE X.K (run g a')))
    (he : starEach [a, .Name t p3] X.env = (false, eval a X.env) :: starEach [.Name t p3] X.env) : PE X (.Call (.Name "isinstance" p2) [a, .Name t p3] [] pos) (tE X.K (run g (.isi a' ty))) := by
  have gl : ∀ {x : Str}, isGlob sc x = true → Gl X x := fun {x} h => by
    show X.env.scope.names.lookup x = some .globalImplicit
    rw [C.sc]
    simpa [isGlob] using h
  obtain ⟨b1, b2, b3, b4⟩ := ty_boot ht
  have cc : CallR X (.builtin "isinstance") (fun vs H Q => ∃ ι st d v k, vs = [v, .ty ty.name] ∧ Sim X.K H ι st ∧ VRel X.K H ι st.length d v ∧ isiD st ty d = some k ∧ Q (.bl k) H) := by
    intro pins s σ H vs us Q I r h
    obtain ⟨ι, st, d, v, k, rfl, S, rv, e, q⟩ := h
    cases r with
    | cons r1 r2 =>
      cases r2 with
      | cons r2 r3 =>
        cases r3
        cases r2
        exact isi_ok I S rv r1 e q
  have ht' : PE X (.Name t p3) (tC (.ty ty.name)) := pe_bltn (gl hgt) (C.blt t b4) b1 rfl b2 b3
  refine (pe_callB cc (gl hg) (C.blt _ (by decide +kernel)) (by decide +kernel) (pa_cons ha (pa_cons ht' pa_nil) he) (by decide +kernel) (by decide +kernel) he rfl).imp fun σ H Q ⟨ι, st, loc, S, L, P⟩ => ?_
  rw [run] at P
  obtain ⟨x, st1, e1, P⟩ := bnd_inv P
  refine tE_of S L e1 fun H1 ι1 v E1 S1 r1 => ?_
  cases e2 : isiD st1 ty x with
  | none => rw [e2] at P; exact P.elim
  | some k =>
    rw [e2] at P
    exact ⟨ι1, st1, x, v, k, rfl, S1, r1, e2, (P.mono E1).same S1 (.bl k)⟩
end
end Ev
set_option Elab.async false
set_option linter.all false
set_option maxRecDepth 100000
set_option maxHeartbeats 8000000
namespace Ev
open PySem PySem.Spec PyProof.Rows L2
section
variable {T : Tab} {g : Fns} {X : Cx} {sc : Scope} {N : List Str} {pos px : Pos}
theorem comp_scope {x : Str} {scope : Scope} (C : Ctx T g X sc N) (h : compOk sc scope N x = true) : CompScope X x scope ∧ (x :: mkN scope X.N).Nodup ∧ (x == ("__debug__" : Str)) = false ∧ (x == ("__classdict__" : Str)) = false := by
  unfold compOk at h
  simp only [Bool.and_eq_true, List.all_eq_true] at h
  obtain ⟨⟨⟨⟨⟨⟨h1, h2⟩, h3⟩, h4⟩, h5⟩, h6⟩, h7⟩ := h
  have hx : (x :: mkN scope N).Nodup := of_decide_eq_true h3
  refine ⟨⟨by simpa using h1, fun y hy => ?_, fun y hy hl => ?_, by simpa using h2, fun y hy hf => ?_, fun y hy hl => ?_⟩, by rw [C.n]; exact hx, by simpa using h4, by simpa using h5⟩
  · obtain ⟨⟨a, b⟩, c⟩ := h6 y hy
    simpa using a
  · obtain ⟨⟨a, b⟩, c⟩ := h6 y hy
    rw [hl] at b
    simpa using b
  · obtain ⟨⟨a, b⟩, c⟩ := h6 y hy
    rw [hf] at c
    have c' : sc.names.lookup y.1 = some .cell ∨ sc.names.lookup y.1 = some .free := by simpa using c
    show X.env.scope.names.lookup y.1 = _ ∨ X.env.scope.names.lookup y.1 = _
    rw [C.sc]
    exact c'
  · rw [C.n] at hy
    obtain ⟨⟨a, b⟩, c⟩ := h7 y hy
    rw [hl] at a
    simpa using a
theorem nm_mk {x y : Str} {scope : Scope} (C : Ctx T g X sc N) (h : compOk sc scope N x = true) (hy : y ∈ mkN scope N) : (y == ("__debug__" : Str)) = false ∧ (y == ("__classdict__" : Str)) = false := by
  unfold compOk at h
  simp only [Bool.and_eq_true, List.all_eq_true] at h
  obtain ⟨z, hz, rfl⟩ := List.mem_map.mp hy
  split
  · obtain ⟨⟨a, b⟩, c⟩ := h.2 z hz
    exact ⟨by simpa using b, by simpa using c⟩
  · exact C.nm z hz
theorem ctx_comp {x : Str} {scope : Scope} (C : Ctx T g X sc N) (h : compOk sc scope N x = true) (fp : List Addr) (s : Shared) (H : Hp) : Ctx T g (cxComp X x scope fp s H) (relabS sc scope) (x :: mkN scope N) := by
  obtain ⟨h1, h2, h3, h4⟩ := comp_scope C h
  refine ⟨?_, ?_, by rw [← C.n]; exact h2, fun y hy => ?_, C.calm, C.un, C.fns, C.blt⟩
  · show relabel scope X.env = relabS sc scope
    rw [← C.sc]
    rfl
  · show x :: mkN scope X.N = x :: mkN scope N
    rw [C.n]
  · rcases List.mem_cons.mp hy with rfl | hy
    · exact ⟨h3, h4⟩
    · exact nm_mk C h hy
theorem elt_plain {K : PySem.W.Frag} {e : Ex} : EltOk K tYes (tE K (run g e)) (fun loc x => bnd (run g e (some x :: loc)) fun y => ret (some y)) where
  turn := fun {H ι st st1 loc σ x v o Q} S L rv e1 k => by
    unfold tYes
    refine iteT ?_
    simp only [bnd, ret] at e1
    cases e2 : run g e (some x :: loc) st with
    | bad => rw [e2] at e1; cases e1
    | ok y st2 =>
      rw [e2] at e1
      cases e1
      exact tE_of S (L.cons rv) e2 fun H1 ι1 w E1 S1 r1 => k H1 ι1 (some w) E1 S1 r1
theorem src_seq {s' : Ex} {k : Loc → Src → M D} {σ : L2.St} {H : Hp} {Q : VK} {RR : It → Hp → Prop} (h : tE X.K (fun loc => bnd (run g s' loc) fun d => bnd (ofO (source false d)) fun s => k loc s) σ H Q)
    (hk : ∀ {J : It} {s : Src} {ι ι1 : Nat → Addr} {st st1 : Sto} {loc : Loc} {H1 : Hp}, Corr X.K J s H1 ι1 st1.length → Ext H H1 ι ι1 st.length st1.length → Sim X.K H1 ι1 st1 → LRel X.K H1 ι1 st1.length loc σ → Post X.K H ι st (k loc s st1) Q → RR J H1)
    (hbad : ∀ loc n st, (∀ xs, st[n]? ≠ some (.lst xs)) → k loc (.at n) st = .bad) : iSeq X.K (tE X.K (run g s')) σ H RR := by
  obtain ⟨ι, st, loc, S, L, P⟩ := h
  obtain ⟨d, st1, e1, P⟩ := bnd_inv P
  obtain ⟨s, st2, e2, P⟩ := bnd_inv P
  obtain ⟨e3, rfl⟩ := ofO_inv e2
  refine tE_of S L e1 fun H1 ι1 v E1 S1 r1 => ?_
  cases r1 with
  | tup h r => cases e3; exact ⟨_, rfl, .inr ⟨⟨_, h.t⟩, hk (Corr.tup h.t r) E1 S1 (L.ext E1) P⟩⟩
  | fl h r => cases e3; exact ⟨_, rfl, .inl ⟨⟨_, h.sql⟩, hk (Corr.fl h r) E1 S1 (L.ext E1) P⟩⟩
  | @ref n hn =>
    cases e3
    cases q : st2[n]? with
    | none =>
      rw [hbad loc n st2 (fun xs z => by rw [q] at z; cases z)] at P
      exact P.elim
    | some o =>
      cases o with
      | dtt _ _ =>
        rw [hbad loc n st2 (fun xs z => by rw [q] at z; cases z)] at P
        exact P.elim
      | lst xs =>
        obtain ⟨vs, h1, _⟩ := S1.ob n _ q
        exact ⟨_, rfl, .inl ⟨⟨vs, SqL.of h1⟩, hk (Corr.ref hn) E1 S1 (L.ext E1) P⟩⟩
  | _ => cases e3
theorem src_rng {s' : Ex} {k : Loc → Src → M D} {σ : L2.St} {H : Hp} {Q : VK} {RR : It → Hp → Prop} (h : tE X.K (fun loc => bnd (run g s' loc) fun d => bnd (ofO (source true d)) fun s => k loc s) σ H Q)
    (hk : ∀ {J : It} {s : Src} {ι ι1 : Nat → Addr} {st st1 : Sto} {loc : Loc} {H1 : Hp}, Corr X.K J s H1 ι1 st1.length → Ext H H1 ι ι1 st.length st1.length → Sim X.K H1 ι1 st1 → LRel X.K H1 ι1 st1.length loc σ → Post X.K H ι st (k loc s st1) Q → RR J H1) :
    iRng1 (tCons (tE X.K (run g s')) tNil) σ H RR := by
  obtain ⟨ι, st, loc, S, L, P⟩ := h
  obtain ⟨d, st1, e1, P⟩ := bnd_inv P
  obtain ⟨s, st2, e2, P⟩ := bnd_inv P
  obtain ⟨e3, rfl⟩ := ofO_inv e2
  refine tE_of S L e1 fun H1 ι1 v E1 S1 r1 => ?_
  cases r1 with
  | int j =>
    simp only [source] at e3
    split at e3
    · rename_i hj
      cases e3
      exact ⟨j, rfl, by omega, by omega, hk Corr.rng E1 S1 (L.ext E1) P⟩
    · cases e3
  | _ => cases e3
theorem nxt_bad {n i : Nat} {st : Sto} (h : ∀ xs, st[n]? ≠ some (.lst xs)) : nxt (.at n) i st = none := by
  unfold nxt
  show (match st[n]? with | some (.lst xs) => some xs[i]? | _ => none) = none
  cases q : st[n]? with
  | none => rfl
  | some o =>
    cases o with
    | dtt _ _ => rfl
    | lst xs => exact absurd q (h xs)
theorem comp_bad {f : D → M (Option D)} (n : Nat) (st : Sto) (h : ∀ xs, st[n]? ≠ some (.lst xs)) : compS f (.at n) st = .bad := by
  unfold compS
  split
  · simp only [bnd, compN, nxt_bad h]
  · rfl
noncomputable def CompD (g : Fns) (X : Cx) (x : Str) (px : Pos) (iter : Expr) (ifs : List Expr) (elt : Expr) (scope : Scope) (y : Ex) : Prop :=
  ∃ wi tc te, PI X (.Name x px) iter wi ∧ (∀ fp s H, PTs (cxComp X x scope fp s H) ifs tc) ∧ (∀ fp s H, PE (cxComp X x scope fp s H) elt te) ∧ (∀ v, foldedSetIterable iter X.env v = pure v) ∧ ∀ σ H Q, tE X.K (run g y) σ H Q → tComp wi tc te σ H Q
theorem CompD.pe {x : Str} {iter elt : Expr} {ifs : List Expr} {scope : Scope} {y : Ex} (C : Ctx T g X sc N) (hcm : T.calm = true) (hc : compOk sc scope N x = true) (h : CompD g X x px iter ifs elt scope y) : PE X (.ListComp elt [⟨.Name x px, iter, ifs, 0⟩] scope pos) (tE X.K (run g y)) := by
  obtain ⟨wi, tc, te, a, b, c, d, e⟩ := h
  obtain ⟨h1, h2, _, _⟩ := comp_scope C hc
  exact (pe_comp (C.calm hcm) h1 h2 (by rw [C.n]; exact C.nd) a b c d).imp e
variable {x : Str} {elt it : Expr} {scope : Scope} {s' c' e' : Ex}
variable {a : Expr} {p3 p4 : Pos}
theorem e_compR (C : Ctx T g X sc N) (hc : compOk sc scope N x = true) (hg : isGlob sc "range" = true) (hst : starEach [a] X.env = [(false, eval a X.env)]) (hs : PE X a (tE X.K (run g s'))) (he : ∀ fp s H, PE (cxComp X x scope fp s H) elt (tE X.K (run g e'))) :
    CompD g X x px (.Call (.Name "range" p3) [a] [] p4) [] elt scope (.comp true s' e') := by
  have hgl : Gl X "range" := by
    show X.env.scope.names.lookup _ = some .globalImplicit
    rw [C.sc]
    simpa [isGlob] using hg
  refine ⟨_, _, _, pi_range1 hgl (C.blt _ (by decide +kernel)) (pa_cons hs pa_nil hst) hst, fun _ _ _ => pts_nil, he, fun _ => rfl, fun σ H Q ⟨ι, st, loc, S, L, P⟩ => ?_⟩
  rw [run] at P
  exact src_rng (k := fun loc s => compS (fun x => bnd (run g e' (some x :: loc)) fun y => ret (some y)) s) ⟨ι, st, loc, S, L, P⟩ (fun {J s ι ι1 st st1 loc H1} F E S1 L1 P1 => comp_ok (loc := loc) (f := fun loc x => bnd (run g e' (some x :: loc)) fun y => ret (some y)) elt_plain F E S1 L1 P1)
end
theorem cE_marks {T : Tab} {n : Nat} {sc : Scope} {N : List Str} {b : Expr} {x : Ex} (h : cE T n sc N b = some x) (op : CmpOp) : behindInMarks op b = false := by
  cases n with
  | zero => cases h
  | succ n => cases n <;> cases b <;> first | rfl | (simp [cE, cT] at h)
theorem cE_fold {T : Tab} {n : Nat} {sc : Scope} {N : List Str} {b : Expr} {x : Ex} (h : cE T n sc N b = some x) (env : Env) (v : Value) : foldedSetIterable b env v = pure v := by
  cases n with
  | zero => cases h
  | succ n => cases n <;> cases b <;> first | rfl | (simp [cE, cT] at h)
theorem cE_star {T : Tab} {n : Nat} {sc : Scope} {N : List Str} {b : Expr} {x : Ex} (h : cE T n sc N b = some x) (es : List Expr) (env : Env) : starEach (b :: es) env = (false, eval b env) :: starEach es env := by
  cases n with
  | zero => cases h
  | succ n => cases n <;> cases b <;> first | rfl | (simp [cE, cT] at h)
end Ev
set_option Elab.async false
set_option linter.all false
set_option maxRecDepth 100000
set_option maxHeartbeats 8000000
namespace Ev
open PySem PySem.Spec PyProof.Rows L2
section
variable {T : Tab} {g : Fns} {X : Cx} {sc scope : Scope} {N : List Str} {pos px py pt p3 p4 : Pos} {x y : Str}
theorem comp2_parts (h : compOk2 sc scope N x y = true) : compOk sc scope N x = true ∧ scope.names.lookup y = some .local ∧ (x :: y :: mkN scope N).Nodup ∧ (y == ("__debug__" : Str)) = false ∧ (y == ("__classdict__" : Str)) = false := by
  unfold compOk2 at h
  simp only [Bool.and_eq_true] at h
  obtain ⟨⟨⟨⟨h1, h2⟩, h3⟩, h5⟩, h6⟩ := h
  exact ⟨h1, by simpa using h2, of_decide_eq_true h3, by simpa using h5, by simpa using h6⟩
theorem ctx_comp2 (C : Ctx T g X sc N) (h : compOk2 sc scope N x y = true) (fp : List Addr) (s : Shared) (H : Hp) : Ctx T g (cxComp2 X x y scope fp s H) (relabS sc scope) (x :: y :: mkN scope N) := by
  obtain ⟨h1, h2, h3, h5, h6⟩ := comp2_parts h
  have C1 := ctx_comp C h1 fp s H
  refine ⟨C1.sc, ?_, ?_, fun z hz => ?_, C1.calm, C1.un, C1.fns, C1.blt⟩
  · show x :: y :: mkN scope X.N = x :: y :: mkN scope N
    rw [C.n]
  · exact h3
  · rcases List.mem_cons.mp hz with rfl | hz
    · exact C1.nm _ List.mem_cons_self
    · rcases List.mem_cons.mp hz with rfl | hz
      · exact ⟨h5, h6⟩
      · exact nm_mk C h1 hz
end
end Ev
set_option Elab.async false
set_option linter.all false
set_option maxRecDepth 100000
set_option maxHeartbeats 8000000
namespace Ev
open PySem PySem.Spec PyProof.Rows L2
section
variable {T : Tab} {g : Fns} {X : Cx} {sc : Scope} {N : List Str} {pos p1 p2 q1 q2 : Pos}
theorem gl_of (C : Ctx T g X sc N) {x : Str} (h : isGlob sc x = true) : Gl X x := by
  show X.env.scope.names.lookup _ = some .globalImplicit
  rw [C.sc]
  simpa [isGlob] using h
theorem base_no {o : Expr} (hk : isNameE o = true) (m : Str) (env : Env) : attributeBase o m env (eval o env) = eval o env := by
  cases o <;> first | rfl | (simp [isNameE] at hk; done)
theorem VRels.dropLast {K : PySem.W.Frag} {H : Hp} {ι : Nat → Addr} {m : Nat} {ds : List D} {vs : List V} (r : VRels K H ι m ds vs) : VRels K H ι m ds.dropLast vs.dropLast := by
  rw [List.dropLast_eq_take, List.dropLast_eq_take, ← r.length]
  exact r.take _
theorem e_popL {o : Expr} {o' : Ex} {m : Str} {ap cp : Pos} (hm : isPop m = true) (hl : (ap.endLine == cp.line) = true) (hb : attributeBase o m X.env (eval o X.env) = eval o X.env) (ho : PE X o (tE X.K (run g o'))) :
    PE X (.Call (.Attribute o m ap) [] [] cp) (tE X.K (run g (.pop o' false))) := by
  have hm : m = "pop" := by simpa [isPop] using hm
  subst hm
  refine (pe_bm0 PySem.F.plainAttrs_list PySem.F.slot_list_pop PySem.F.type_list_pop mt_pop ho hb hl).imp fun σ H Q ⟨ι, st, loc, S, L, P⟩ => ?_
  rw [run] at P
  obtain ⟨x, st1, e1, P⟩ := bnd_inv P
  refine tE_of S L e1 fun H1 ι1 v E1 S1 r1 => ?_
  unfold popD at P
  split at P
  · rename_i n
    split at P
    · rename_i xs q
      rw [if_neg (by decide)] at P
      split at P
      · rename_i y hy
        cases r1 with
        | ref hn =>
          obtain ⟨vs, g1, g2⟩ := S1.ob _ _ q
          obtain ⟨u, hu, ru⟩ := g2.get hy
          obtain ⟨E4, S4⟩ := S1.write q g2.dropLast
          have E4' : Ext H1 (upd H1 (ι1 n) (.lst vs.dropLast)) ι1 ι1 st1.length (st1.set n (O.lst xs.dropLast)).length := by rw [List.length_set]; exact E4
          exact ⟨.inl ⟨rfl, vs, SqL.of g1⟩, _, vs, u, rfl, rfl, g1, by rw [← g2.length]; exact hu, P _ ι1 _ (E1.trans E4') S4 (ru.ext E4')⟩
      · exact P.elim
    · exact P.elim
  · exact P.elim
theorem e_popF {o : Expr} {o' : Ex} {m : Str} {ap cp kp : Pos} {k : Nat} (hm : isPop m = true) (hl : (ap.endLine == cp.line) = true) (hb : attributeBase o m X.env (eval o X.env) = eval o X.env) (ho : PE X o (tE X.K (run g o'))) :
    PE X (.Call (.Attribute o m ap) [.Constant (.int 0) k kp] [] cp) (tE X.K (run g (.pop o' true))) := by
  have hm : m = "pop" := by simpa [isPop] using hm
  subst hm
  refine (pe_bm PySem.F.plainAttrs_list PySem.F.slot_list_pop PySem.F.type_list_pop mt_popAt ho (pa_cons pe_int pa_nil rfl) hb rfl hl rfl rfl).imp fun σ H Q ⟨ι, st, loc, S, L, P⟩ => ?_
  rw [run] at P
  obtain ⟨x, st1, e1, P⟩ := bnd_inv P
  refine tE_of S L e1 fun H1 ι1 v E1 S1 r1 => ?_
  unfold popD at P
  split at P
  · rename_i n
    split at P
    · rename_i xs q
      rw [if_pos rfl] at P
      split at P
      · rename_i y hy
        cases r1 with
        | ref hn =>
          obtain ⟨vs, g1, g2⟩ := S1.ob _ _ q
          obtain ⟨u, hu, ru⟩ := g2.get hy
          have hlen : 0 < vs.length := (List.getElem?_eq_some_iff.mp hu).1
          have hd := g2.drop 1
          obtain ⟨E4, S4⟩ := S1.write q hd
          have E4' : Ext H1 (upd H1 (ι1 n) (.lst (vs.drop 1))) ι1 ι1 st1.length (st1.set n (O.lst (xs.drop 1))).length := by rw [List.length_set]; exact E4
          refine ⟨.inl ⟨rfl, vs, SqL.of g1⟩, _, vs, 0, 0, u, rfl, rfl, g1, by decide, by decide, ?_, hu, ?_⟩
          · simp [seqIndex?, hlen]
          · have z := P _ ι1 _ (E1.trans E4') S4 (ru.ext E4')
            rw [List.drop_one] at z
            rw [List.eraseIdx_zero]
            exact z
      · exact P.elim
    · exact P.elim
  · exact P.elim
end
end Ev
set_option Elab.async false
set_option linter.all false
set_option maxRecDepth 100000
set_option maxHeartbeats 8000000
namespace Ev
open PySem PySem.Spec PyProof.Rows L2
section
variable {K : PySem.W.Frag} {H : Hp} {ι : Nat → Addr} {m : Nat}
theorem TRels.get {kvs : List (List Key × D)} {vs : List (List Key × V)} (r : TRels K H ι m kvs vs) : ∀ {i : Nat} {p : List Key × D}, kvs[i]? = some p → ∃ v, vs[i]? = some (p.1, v) ∧ VRel K H ι m p.2 v := by
  induction r with
  | nil => intro i p e; simp at e
  | cons h t ih =>
    intro i p e
    cases i with
    | zero => cases e; exact ⟨_, rfl, h⟩
    | succ i => simpa using ih (i := i) (p := p) (by simpa using e)
theorem TRels.look {kvs : List (List Key × D)} {vs : List (List Key × V)} (r : TRels K H ι m kvs vs) (k : List Key) :
    (∃ d v, Cb.look kvs k = some d ∧ valV vs k = some v ∧ VRel K H ι m d v) ∨ (Cb.look kvs k = none ∧ valV vs k = none) := by
  induction r with
  | nil => exact .inr ⟨rfl, rfl⟩
  | @cons k' d v ds vs h t ih =>
    unfold Cb.look
    by_cases e : k' = k
    · rw [if_pos e, valV_pos (p := (k', v)) e]; exact .inl ⟨_, _, rfl, rfl, h⟩
    · rw [if_neg e, valV_neg (p := (k', v)) e]; exact ih
theorem TRels.some {kvs : List (List Key × D)} {vs : List (List Key × V)} (r : TRels K H ι m kvs vs) {k : List Key} {d : D} (e : Cb.look kvs k = .some d) : ∃ v, valV vs k = .some v ∧ VRel K H ι m d v := by
  rcases r.look k with ⟨d', v, h1, h2, h3⟩ | ⟨h1, _⟩
  · rw [e] at h1; cases h1; exact ⟨v, h2, h3⟩
  · rw [e] at h1; cases h1
theorem TRels.isSome {kvs : List (List Key × D)} {vs : List (List Key × V)} (r : TRels K H ι m kvs vs) (k : List Key) : (valV vs k).isSome = (Cb.look kvs k).isSome := by
  rcases r.look k with ⟨d', v, h1, h2, h3⟩ | ⟨h1, h2⟩ <;> rw [h1, h2] <;> rfl
theorem TRels.repl {kvs : List (List Key × D)} {vs : List (List Key × V)} (r : TRels K H ι m kvs vs) (k : List Key) {d : D} {v : V} (h : VRel K H ι m d v) : TRels K H ι m (kvs.map fun kv => if kv.1 = k then (kv.1, d) else kv) (vs.map fun kv => if kv.1 = k then (kv.1, v) else kv) := by
  induction r with
  | nil => exact .nil
  | @cons k' d' v' ds vs h' t ih =>
    rw [List.map_cons, List.map_cons]
    by_cases e : k' = k
    · rw [if_pos e, if_pos e]; exact .cons h ih
    · rw [if_neg e, if_neg e]; exact .cons h' ih
theorem TRels.put {kvs : List (List Key × D)} {vs : List (List Key × V)} (r : TRels K H ι m kvs vs) (k : List Key) {d : D} {v : V} (h : VRel K H ι m d v) : TRels K H ι m (Cb.put kvs k d) (putK vs k v) := by
  have e : (kvs.any fun kv => decide (kv.1 = k)) = (vs.any fun kv => decide (kv.1 = k)) := by
    induction r with
    | nil => rfl
    | cons h t ih => rw [List.any_cons, List.any_cons, ih]
  unfold Cb.put putK
  rw [e]
  by_cases q : (vs.any fun kv => decide (kv.1 = k)) = true
  · rw [if_pos q, if_pos q]; exact r.repl k h
  · rw [if_neg q, if_neg q]; exact r.append (.cons h .nil)
theorem TRels.drop {kvs : List (List Key × D)} {vs : List (List Key × V)} (r : TRels K H ι m kvs vs) (k : List Key) : TRels K H ι m (Cb.drp kvs k) (dropK vs k) := by
  unfold Cb.drp dropK
  induction r with
  | nil => exact .nil
  | @cons k' d v ds vs h t ih =>
    rw [List.filter_cons, List.filter_cons]
    by_cases e : k' = k
    · rw [if_neg (by simp [e]), if_neg (by simp [e])]; exact ih
    · rw [if_pos (by simp [e]), if_pos (by simp [e])]; exact .cons h ih
theorem kD_rels : ∀ k : List Key, VRels K H ι m (k.map kD) (k.map kV)
  | [] => .nil
  | .inl i :: r => .cons (.int i) (kD_rels r)
  | .inr x :: r => .cons (.str x) (kD_rels r)
theorem keyD_rel {b : Addr} {k : List Key} (h : H b = .some (.tup (k.map kV))) : VRel K H ι m (keyD k) (.ref b) := .tup h (kD_rels k)
theorem keys_rel : ∀ {ds : List D} {k : List Key} {vs : List V}, keysBy key1? ds = .some k → VRels K H ι m ds vs → vs = k.map kV
  | [], _, _, e, r => by cases e; cases r; rfl
  | d :: ds, k, _, e, r => by
    unfold keysBy at e
    split at e
    · rename_i k1 ks q1 q2
      cases e
      cases r with
      | cons h t =>
        rw [keys_rel q2 t]
        unfold key1? at q1
        split at q1
        · cases q1; cases h; rfl
        · cases q1; cases h; rfl
        · cases q1
    · cases e
theorem keysq_rel : ∀ {ds : List D} {k : List Key} {vs : List V}, keysBy key1q? ds = .some k → VRels K H ι m ds vs → QK k vs
  | [], _, _, e, r => by cases e; cases r; exact .nil
  | d :: ds, k, _, e, r => by
    unfold keysBy at e
    split at e
    · rename_i k1 ks q1 q2
      cases e
      cases r with
      | cons h t =>
        have ih := keysq_rel q2 t
        unfold key1q? at q1
        split at q1
        · cases q1; cases h; exact .int ih
        · cases q1; cases h; exact .str ih
        · cases q1; cases h; exact .bl ih
        · cases q1
    · cases e
theorem key_at {x : D} {k : List Key} {v : V} (e : key? x = .some k) (r : VRel K H ι m x v) : ∃ b, v = .ref b ∧ H b = .some (.tup (k.map kV)) := by
  unfold key? at e
  split at e
  · cases r with
    | tup h rr => rw [← keys_rel e rr]; exact ⟨_, rfl, h⟩
  · cases e
theorem keyq_at {x : D} {k : List Key} {v : V} (e : keyq? x = .some k) (r : VRel K H ι m x v) : ∃ b vs, v = .ref b ∧ H b = .some (.tup vs) ∧ QK k vs := by
  unfold keyq? at e
  split at e
  · cases r with
    | tup h rr => exact ⟨_, _, rfl, h, keysq_rel e rr⟩
  · cases e
theorem dtt_inv {x : D} {st st1 : Sto} {q : Nat × Bool × List (List Key × D)} (e : dtt? x st = .ok q st1) : st1 = st ∧ x = .ref q.1 ∧ st[q.1]? = .some (.dtt q.2.1 q.2.2) := by
  unfold dtt? at e
  split at e
  · split at e
    · rename_i h; cases e; exact ⟨rfl, rfl, h⟩
    · cases e
  · cases e
theorem dtt_at {st : Sto} {n : Nat} {f : Bool} {kvs : List (List Key × D)} (S : Sim K H ι st) (e : st[n]? = .some (.dtt f kvs)) : ∃ vs, Rd H (ι n) (.dT vs) ∧ TRels K H ι st.length kvs vs ∧ (f = false → H (ι n) = .some (.dT vs)) := by
  obtain ⟨vs, h1, h2⟩ := S.ob _ _ e
  cases f with
  | false => rw [if_neg (by decide)] at h1; exact ⟨vs, .inl h1, h2, fun _ => h1⟩
  | true => rw [if_pos rfl] at h1; exact ⟨vs, .inr h1, h2, fun z => by cases z⟩
end
noncomputable def inOp (neg : Bool) : CmpOp := if neg then .NotIn else .In
theorem op_din {X : Cx} (hu : X.A.units + 100 < cLine) (neg : Bool) : OpR X (compareOp (inOp neg)) (rD X.K (dinD neg)) := by
  intro pins s σ H vx vy ux uy Q I rx ry h
  obtain ⟨ι, st, dx, dy, S, hx, hy, P⟩ := h
  unfold dinD at P
  obtain ⟨q, st1, e1, P1⟩ := bnd_inv P
  obtain ⟨k, st2, e2, P2⟩ := bnd_inv P1
  clear P1
  obtain ⟨rfl, rfl, e3⟩ := dtt_inv e1
  obtain ⟨e4, rfl⟩ := ofO_inv e2
  obtain ⟨vs, h1, h2, _⟩ := dtt_at S e3
  obtain ⟨b, ws, rfl, hb, qk⟩ := keyq_at e4 hx
  cases hy
  cases rx
  cases ry
  have P2 := P2.same S (.bl _)
  have hk := h2.isSome k
  cases neg with
  | false =>
    rw [if_neg (by decide)] at P2
    exact d_inQ (by omega) I h1 hb qk fun s' I' => ⟨.bl _, H, I', by rw [hk]; rfl, P2⟩
  | true =>
    rw [if_pos rfl] at P2
    exact d_notInQ (by omega) I h1 hb qk fun s' I' => ⟨.bl _, H, I', by rw [hk]; rfl, P2⟩
theorem ix_T {X : Cx} (hu : X.A.units + 100 < cLine) : IxR X (rD X.K dixD) := by
  intro value slice pins s σ H vx vy ux uy Q I rx ry h hs
  obtain ⟨ι, st, dx, dy, S, hx, hy, P⟩ := h
  unfold dixD at P
  obtain ⟨q, st1, e1, P1⟩ := bnd_inv P
  obtain ⟨k, st2, e2, P2⟩ := bnd_inv P1
  clear P1
  obtain ⟨rfl, rfl, e3⟩ := dtt_inv e1
  obtain ⟨e4, rfl⟩ := ofO_inv e2
  obtain ⟨vs, h1, h2, _⟩ := dtt_at S e3
  obtain ⟨b, rfl, hb⟩ := key_at e4 hy
  cases hx
  cases rx
  have P' : Post X.K H ι st2 (ofO (Cb.look q.2.2 k) st2) Q := P2
  cases el : Cb.look q.2.2 k with
  | none => rw [el] at P'; exact P'.elim
  | some d =>
    rw [el] at P'
    obtain ⟨w, ew, rw'⟩ := h2.some el
    have g : DGet H (ι q.1) (.ref b) (some w) := .inr ⟨vs, k, b, h1, rfl, hb, ew.symm⟩
    exact tail_any (dict_typeIs I g) PySem.F.slot_dict_getitem.lookup (d_getItem (by omega) I g ry fun w' s' I' rw2 => ⟨w, H, I', rw2, P'.same S rw'⟩) hs
section
variable {T : Tab} {g : Fns} {X : Cx} {sc : Scope} {N : List Str} {pos p1 p2 q1 q2 : Pos} {a b c : Expr} {a' b' c' : Ex} {neg : Bool}
theorem e_din (hu : X.A.units + 100 < cLine) (hm : behindInMarks (inOp neg) b = false) (ha : PE X a (tE X.K (run g a'))) (hb : PE X b (tE X.K (run g b'))) : PE X (.Compare a [inOp neg] [b] pos) (tE X.K (run g (.din neg a' b'))) :=
  (pe_cmpR (op_din hu neg) ha hb hm).imp fun σ H Q ⟨ι, st, loc, S, L, P⟩ => by
    rw [run] at P
    exact rd_op ⟨ι, st, loc, S, L, P⟩
theorem t_din (hu : X.A.units + 100 < cLine) (hm : behindInMarks (inOp neg) b = false) (ha : PE X a (tE X.K (run g a'))) (hb : PE X b (tE X.K (run g b'))) : PT X (.Compare a [inOp neg] [b] pos) (tT X.K (run g (.din neg a' b'))) :=
  (pt_cmpR (op_din hu neg) ha hb hm).imp fun σ H Q h => test_of (fun Q' ⟨ι, st, loc, S, L, P⟩ => by
    rw [run] at P
    exact rd_op ⟨ι, st, loc, S, L, P⟩) h
theorem e_dix (hu : X.A.units + 100 < cLine) (hs : plainSub b = true) (ha : PE X a (tE X.K (run g a'))) (hb : PE X b (tE X.K (run g b'))) : PE X (.Subscript a b pos) (tE X.K (run g (.dix a' b'))) :=
  (pe_ix (ix_T hu) ha hb (fun o i => by cases b <;> first | rfl | cases hs)).imp fun σ H Q ⟨ι, st, loc, S, L, P⟩ => by
    rw [run] at P
    exact rd_op ⟨ι, st, loc, S, L, P⟩
theorem e_empT : PE X (.Dict [] [] pos) (tE X.K (run g .empT)) :=
  pe_dnewT.imp fun σ H Q ⟨ι, st, loc, S, L, P⟩ => by
    rw [run] at P
    intro p hp
    obtain ⟨ι', E, e, S'⟩ := S.laid (o := .dtt false []) (ho := .dT []) hp (fun ι' h1 h2 => ⟨[], upd_same, .nil⟩)
    have l : (st ++ [O.dtt false []]).length = st.length + 1 := by simp
    refine (show Post X.K H ι st (.ok (.ref st.length) (st ++ [.dtt false []])) Q from P) _ ι' _ (by rw [l]; exact E) S' ?_
    rw [← e, l]
    exact .ref (Nat.lt_succ_self _)
theorem isD_of {H : Hp} {a : Addr} {vs : List (List Key × V)} (h : Rd H a (.dT vs)) : IsD H a := .inr ⟨vs, h⟩
theorem m1_of {o e : Expr} {m : Str} {ap cp : Pos} (hl : (ap.endLine == cp.line) = true) (hb : attributeBase o m X.env (eval o X.env) = eval o X.env) (hst : starEach [e] X.env = [(false, eval e X.env)]) : M1 X o m ap e cp :=
  ⟨hb, by rw [hst]; rfl, hl, by rw [hst]; rfl⟩
theorem m2_of {o e f : Expr} {m : Str} {ap cp : Pos} (hl : (ap.endLine == cp.line) = true) (hb : attributeBase o m X.env (eval o X.env) = eval o X.env) (hst : starEach [e, f] X.env = [(false, eval e X.env), (false, eval f X.env)]) : M2 X o m ap e f cp :=
  ⟨hb, by rw [hst]; rfl, hl, by rw [hst]; rfl⟩
theorem e_dget {ap cp : Pos} (hu : X.A.units + 100 < cLine) (m : M2 X a "get" ap b c cp) (ha : PE X a (tE X.K (run g a'))) (hb : PE X b (tE X.K (run g b'))) (hc : PE X c (tE X.K (run g c'))) :
    PE X (.Call (.Attribute a "get" ap) [b, c] [] cp) (tE X.K (run g (.dget a' b' c'))) := by
  refine (pe_dget2 (by omega) ha hb hc m).imp fun σ H Q ⟨ι, st, loc, S, L, P⟩ => ?_
  rw [run] at P
  obtain ⟨x, st1, e1, P1⟩ := bnd_inv P
  obtain ⟨q0, st0, e0, P2⟩ := bnd_inv P1
  clear P1
  obtain ⟨y, st2, e2, P3⟩ := bnd_inv P2
  clear P2
  obtain ⟨z, st3, e3, P4⟩ := bnd_inv P3
  clear P3
  unfold dgetD at P4
  obtain ⟨q, st4, e4, P5⟩ := bnd_inv P4
  clear P4
  obtain ⟨k, st5, e5, P6⟩ := bnd_inv P5
  clear P5
  obtain ⟨rfl, rfl, f1⟩ := dtt_inv e0
  obtain ⟨rfl, fx, f3⟩ := dtt_inv e4
  obtain ⟨f4, rfl⟩ := ofO_inv e5
  refine tE_of S L e1 fun H1 ι1 v E1 S1 r1 => ?_
  cases r1 with
  | ref hn =>
    obtain ⟨ws, w1, _⟩ := dtt_at S1 f1
    refine ⟨_, rfl, isD_of w1, tE_of S1 (L.ext E1) e2 fun H2 ι2 v2 E2 S2 r2 => tE_of S2 ((L.ext E1).ext E2) e3 fun H3 ι3 v3 E3 S3 r3 => ?_⟩
    obtain ⟨vs, h1, h2, _⟩ := dtt_at S3 f3
    obtain ⟨b, rfl, hb⟩ := key_at f4 (r2.ext E3)
    injection fx with fx
    have ea : ι3 q.1 = ι1 q0.1 := by rw [← fx, E3.ad _ (Nat.lt_of_lt_of_le hn E2.le), E2.ad _ hn]
    rw [ea] at h1
    refine ⟨valV vs k, .inr ⟨vs, k, b, h1, rfl, hb, rfl⟩, (P6.mono ((E1.trans E2).trans E3)).same S3 ?_⟩
    rcases h2.look k with ⟨d', v, g1, g2, g3⟩ | ⟨g1, g2⟩ <;> rw [g1, g2]
    · exact g3
    · exact r3
theorem e_dpop {ap cp : Pos} (hu : X.A.units + 100 < cLine) (m : M1 X a "pop" ap b cp) (ha : PE X a (tE X.K (run g a'))) (hb : PE X b (tE X.K (run g b'))) :
    PE X (.Call (.Attribute a "pop" ap) [b] [] cp) (tE X.K (run g (.dpop a' b'))) := by
  refine (pe_dpopT (by omega) ha hb m).imp fun σ H Q ⟨ι, st, loc, S, L, P⟩ => ?_
  rw [run] at P
  obtain ⟨x, st1, e1, P1⟩ := bnd_inv P
  obtain ⟨q0, st0, e0, P2⟩ := bnd_inv P1
  clear P1
  obtain ⟨y, st2, e2, P3⟩ := bnd_inv P2
  clear P2
  unfold dpopD at P3
  obtain ⟨q, st4, e4, P4⟩ := bnd_inv P3
  clear P3
  obtain ⟨k, st5, e5, P5⟩ := bnd_inv P4
  clear P4
  obtain ⟨d, st6, e6, P6⟩ := bnd_inv P5
  clear P5
  obtain ⟨rfl, rfl, f1⟩ := dtt_inv e0
  obtain ⟨rfl, fx, f3⟩ := dtt_inv e4
  obtain ⟨f4, rfl⟩ := ofO_inv e5
  obtain ⟨f5, rfl⟩ := ofO_inv e6
  split at P6
  · exact P6.elim
  · rename_i hfz
    refine tE_of S L e1 fun H1 ι1 v E1 S1 r1 => ?_
    cases r1 with
    | ref hn =>
      obtain ⟨ws, w1, _⟩ := dtt_at S1 f1
      refine ⟨_, rfl, isD_of w1, tE_of S1 (L.ext E1) e2 fun H2 ι2 v2 E2 S2 r2 => ?_⟩
      have hfz : q.2.1 = false := by simpa using hfz
      rw [hfz] at f3
      obtain ⟨vs, h1, h2, h3⟩ := dtt_at S2 f3
      have h3 := h3 rfl
      obtain ⟨b, rfl, hb⟩ := key_at f4 r2
      injection fx with fx
      have ea : ι2 q.1 = ι1 q0.1 := by rw [← fx, E2.ad _ hn]
      obtain ⟨w, g1, g2⟩ := h2.some f5
      obtain ⟨E4, S4⟩ := S2.writeT (fz := false) f3 (ho := .dT (dropK vs k)) (vs := dropK vs k) rfl (h2.drop k)
      have E4' : Ext H2 (upd H2 (ι2 q.1) (.dT (dropK vs k))) ι2 ι2 st6.length (st6.set q.1 (.dtt false (Cb.drp q.2.2 k))).length := by rw [List.length_set]; exact E4
      have fin := P6 _ ι2 _ ((E1.trans E2).trans E4') S4 (g2.ext E4')
      rw [ea] at h3 fin
      exact ⟨b, vs, k, w, rfl, h3, hb, g1, fin⟩
theorem e_dlen (C : Ctx T g X sc N) (hg : isGlob sc "len" = true) (hst : starEach [a] X.env = [(false, eval a X.env)]) (ha : PE X a (tE X.K (run g a'))) : PE X (.Call (.Name "len" p2) [a] [] pos) (tE X.K (run g (.dlen a'))) := by
  refine (pe_callB call_lenT (gl_of C hg) (C.blt _ (by decide +kernel)) PySem.boot_len (pa_cons ha pa_nil hst) (by decide +kernel) (by decide +kernel) hst rfl).imp fun σ H Q ⟨ι, st, loc, S, L, P⟩ => ?_
  rw [run] at P
  obtain ⟨x, st1, e1, P1⟩ := bnd_inv P
  unfold dlenD at P1
  obtain ⟨q, st4, e4, P2⟩ := bnd_inv P1
  clear P1
  obtain ⟨rfl, rfl, f3⟩ := dtt_inv e4
  refine tE_of S L e1 fun H1 ι1 v E1 S1 r1 => ?_
  cases r1 with
  | ref hn =>
    obtain ⟨vs, h1, h2, _⟩ := dtt_at S1 f3
    refine ⟨_, vs, rfl, h1, ?_⟩
    rw [← h2.length]
    exact (P2.mono E1).same S1 (.int _)
theorem keysAt_rel {K : PySem.W.Frag} {H : Hp} {ι : Nat → Addr} {m : Nat} {kvs : List (List Key × D)} {vs : List (List Key × V)} (r : TRels K H ι m kvs vs) : ∀ {ys : List V}, KeysAt H vs ys → VRels K H ι m (kvs.map fun kv => keyD kv.1) ys := by
  induction r with
  | nil => intro ys h; cases h; exact .nil
  | cons h t ih =>
    intro ys q
    cases q with
    | cons q1 q2 =>
      obtain ⟨b, rfl, hb⟩ := q1
      exact .cons (keyD_rel hb) (ih q2)
theorem e_lkeys (C : Ctx T g X sc N) (hcm : T.calm = true) (hg : isGlob sc "list" = true) (hst : starEach [a] X.env = [(false, eval a X.env)]) (ha : PE X a (tE X.K (run g a'))) : PE X (.Call (.Name "list" p2) [a] [] pos) (tE X.K (run g (.lkeys a'))) := by
  refine (pe_callTy (call_listT (C.calm hcm)) (gl_of C hg) (C.blt _ (by decide +kernel)) (by decide +kernel) (pa_cons ha pa_nil hst) (by decide +kernel) (by decide +kernel) hst rfl).imp fun σ H Q ⟨ι, st, loc, S, L, P⟩ => ?_
  rw [run] at P
  obtain ⟨x, st1, e1, P1⟩ := bnd_inv P
  unfold lkeysD at P1
  obtain ⟨q, st4, e4, P2⟩ := bnd_inv P1
  clear P1
  obtain ⟨rfl, rfl, f3⟩ := dtt_inv e4
  split at P2
  · refine tE_of S L e1 fun H1 ι1 v E1 S1 r1 => ?_
    cases r1 with
    | ref hn =>
      obtain ⟨vs, h1, h2, _⟩ := dtt_at S1 f3
      exact ⟨_, vs, rfl, h1, fun l ys hl hk => (P2.mono E1).alloc S1 (keysAt_rel h2 hk) l hl⟩
  · exact P2.elim
theorem pairs_rel {K : PySem.W.Frag} {H : Hp} {ι : Nat → Addr} {m : Nat} : ∀ {xs : List D} {ps : List (List Key × D)} {ys : List V}, pairs? xs = some ps → VRels K H ι m xs ys → ∃ vs, PsAt H vs ys ∧ TRels K H ι m ps vs
  | [], _, _, e, r => by cases e; cases r; exact ⟨[], .nil, .nil⟩
  | d :: xs, ps, _, e, r => by
    unfold pairs? at e
    split at e
    · rename_i p ps' q1 q2
      cases e
      cases r with
      | cons h t =>
        obtain ⟨vs, h1, h2⟩ := pairs_rel q2 t
        unfold pair? at q1
        split at q1
        · rename_i kd vd
          cases h with
          | tup hq rr =>
            cases rr with
            | cons r1 rr =>
              cases rr with
              | @cons _ v2 _ _ r2 rr =>
                cases rr
                obtain ⟨k', ek, ep⟩ := Option.map_eq_some_iff.mp q1
                subst ep
                obtain ⟨b, rfl, hb⟩ := key_at ek r1
                exact ⟨(k', v2) :: vs, .cons ⟨_, b, rfl, hq, hb⟩ h1, .cons r2 h2⟩
        · cases q1
    · cases e
theorem fill_rel {K : PySem.W.Frag} {H : Hp} {ι : Nat → Addr} {m : Nat} {ps : List (List Key × D)} {vs : List (List Key × V)} (r : TRels K H ι m ps vs) : ∀ {acc : List (List Key × D)} {acc' : List (List Key × V)}, TRels K H ι m acc acc' →
    TRels K H ι m (ps.foldl (fun acc p => Cb.put acc p.1 p.2) acc) (vs.foldl (fun acc p => putK acc p.1 p.2) acc') := by
  induction r with
  | nil => intro acc acc' h; exact h
  | cons h t ih => intro acc acc' q; exact ih (q.put _ h)
theorem e_dictL (C : Ctx T g X sc N) (hcm : T.calm = true) (hg : isGlob sc "dict" = true) (hst : starEach [a] X.env = [(false, eval a X.env)]) (ha : PE X a (tE X.K (run g a'))) : PE X (.Call (.Name "dict" p2) [a] [] pos) (tE X.K (run g (.dictL a'))) := by
  have hu := C.un
  refine (pe_callTy (call_dictT (by omega) (C.calm hcm)) (gl_of C hg) (C.blt _ (by decide +kernel)) (by decide +kernel) (pa_cons ha pa_nil hst) (by decide +kernel) (by decide +kernel) hst rfl).imp fun σ H Q ⟨ι, st, loc, S, L, P⟩ => ?_
  rw [run] at P
  obtain ⟨x, st1, e1, P⟩ := bnd_inv P
  have sz : sizeLine = 16777216 := sizeLine_eq
  refine tE_of S L e1 fun H1 ι1 v E1 S1 r1 => ?_
  unfold dictLD at P
  split at P
  · split at P
    · rename_i xs q
      split at P
      · rename_i ps hps
        split at P
        · rename_i hl
          cases r1 with
          | ref hn =>
            obtain ⟨ys, h1, h2⟩ := S1.ob _ _ q
            obtain ⟨vs, k1, k2⟩ := pairs_rel hps h2
            refine ⟨_, ys, vs, rfl, h1, k1, by rw [← h2.length]; omega, fun p hp => ?_⟩
            obtain ⟨ι', E, e, S'⟩ := S1.laid (o := .dtt false (fillT ps)) (ho := .dT (fillV vs)) hp (fun ι' g1 g2 => ⟨fillV vs, upd_same, TRels.extW ⟨Nat.le_succ _, g1, fun b xs e => by rw [upd_ne (ne_of_none e hp)]; exact e, fun b ob u e _ => by rw [upd_ne (ne_of_none e hp)]; exact e⟩ (fill_rel k2 .nil)⟩)
            have l : (st1 ++ [O.dtt false (fillT ps)]).length = st1.length + 1 := by simp
            refine (P.mono E1) _ ι' _ (by rw [l]; exact E) S' ?_
            rw [← e, l]
            exact .ref (Nat.lt_succ_self _)
        · exact P.elim
      · exact P.elim
    · exact P.elim
  · exact P.elim
end
end Ev
set_option Elab.async false
set_option linter.all false
set_option maxRecDepth 100000
set_option maxHeartbeats 8000000
namespace Ev
open PySem PySem.Spec PyProof.Rows L2
noncomputable def rPopN : V → List V → Hp → VK → Prop := fun x vs H Q => ∃ l xs i y, x = .ref l ∧ vs = [.int i] ∧ H l = some (.lst xs) ∧ 0 ≤ i ∧ xs[i.toNat]? = some y ∧ Q y (upd H l (.lst (xs.eraseIdx i.toNat)))
theorem mt_popN {X : Cx} : MtR X "list.pop" rPopN := by
  intro pins s σ H x vs v us Q I rx rv h
  obtain ⟨l, xs, i, y, rfl, rfl, hH, h0, hy, q⟩ := h
  obtain ⟨z, its, m, r, hlen, e⟩ := I.lstM hH
  have sz : sizeLine = 16777216 := sizeLine_eq
  have hlt : i.toNat < xs.length := (List.getElem?_eq_some_iff.mp hy).1
  refine mt_popAt pins s σ H _ _ v us Q I rx rv ⟨l, xs, i, i.toNat, y, rfl, rfl, hH, by omega, by omega, ?_, hy, q⟩
  unfold seqIndex?
  have : i < xs.length := by omega
  simp [h0, this, Int.not_lt.mpr h0]
theorem VRels.erase {K : PySem.W.Frag} {H : Hp} {ι : Nat → Addr} {m : Nat} : ∀ {ds : List D} {vs : List V} (i : Nat), VRels K H ι m ds vs → VRels K H ι m (ds.eraseIdx i) (vs.eraseIdx i)
  | _, _, _, .nil => .nil
  | _, _, 0, .cons _ t => t
  | _, _, i + 1, .cons h t => .cons h (VRels.erase i t)
theorem cnt_at {X : Cx} {pins : List (Addr × Obj)} {σ : L2.St} {H : Hp} {s : Shared} {ι : Nat → Addr} {st : Sto} (I : Inv X pins σ H s) (S : Sim X.K H ι st) {x : D} {ux : Value} {A : Around} (hx : At X.K H ι st.length x ux) (hu : A.units + 60 < cLine) :
    ∀ {ys : List D} {us : List Value} {k : Nat}, cntEq st x ys = some k → Ats X.K H ι st.length ys us → (∀ u ∈ us, SeqAt.EqAt A s u ux (eAt X.K H ι st x u)) ∧ us.countP (eAt X.K H ι st x) = k
  | [], us, k, h, r => by
    have l := r.length
    cases us with
    | cons _ _ => simp at l
    | nil => exact ⟨fun u hu => (by cases hu), Option.some.inj h⟩
  | y :: ys, us, k, h, r => by
    have l := r.length
    cases us with
    | nil => simp at l
    | cons u us =>
      obtain ⟨_, r1, q1⟩ := r
      cases q1 with
      | cons w1 w2 =>
        cases r1 with
        | cons m1 m2 =>
          unfold cntEq at h
          cases e1 : eqD 60 st y x with
          | none => rw [e1] at h; simp at h
          | some a =>
            cases e2 : cntEq st x ys with
            | none => rw [e1, e2] at h; simp at h
            | some b =>
              rw [e1, e2] at h
              obtain ⟨he, hk⟩ := cnt_at I S hx hu e2 ⟨_, m2, w2⟩
              obtain ⟨_, _, hE⟩ := eqAt_D I S 60 (A := A) e1 ⟨_, m1, w1⟩ hx hu
              have ea : eAt X.K H ι st x u = a := by rw [eAt_of I S ⟨_, m1, w1⟩, e1]; rfl
              refine ⟨fun z hz => ?_, ?_⟩
              · rcases List.mem_cons.mp hz with rfl | hz
                · rw [ea]; exact hE
                · exact he z hz
              · rw [List.countP_cons, ea, hk, ← Option.some.inj h]
                cases a <;> rfl
noncomputable def rCnt (K : PySem.W.Frag) : V → List V → Hp → VK → Prop := fun x vs H Q => ∃ ι st n ys d v c, x = .ref (ι n) ∧ vs = [v] ∧ Sim K H ι st ∧ st[n]? = some (.lst ys) ∧ VRel K H ι st.length d v ∧ cntEq st d ys = some c ∧ Q (.int c) H
theorem mt_cnt {X : Cx} (hu : X.A.units + 100 < cLine) : MtR X "list.count" (rCnt X.K) := by
  intro pins s σ H x vs v us Q I rx rv h
  obtain ⟨ι, st, n, ys, d, w, c, rfl, rfl, S, en, rd, ha, q⟩ := h
  cases rx
  obtain ⟨u, rfl, ru⟩ := vals1 rv
  obtain ⟨xs, h1, rr⟩ := S.ob _ _ en
  obtain ⟨z, its, m, r, hlen, e⟩ := I.lstM h1
  obtain ⟨hE, hk⟩ := cnt_at I S (A := X.A.in1.in1) ⟨_, rd, ru⟩ (by show X.A.units + 1 + 1 + 60 < cLine; omega) ha ⟨_, rr, r⟩
  obtain ⟨hE', _⟩ := cnt_at I S (A := X.A.in1) ⟨_, rd, ru⟩ (by show X.A.units + 1 + 60 < cLine; omega) ha ⟨_, rr, r⟩
  refine call_meets PySem.F.slot_list_count ⟨_, e, rfl⟩ PySem.F.entry_list_count (PySem.F.args_list_count_2 _ _)
    (SeqAt.list_countAt (ι n) its.toArray m _ _ u (eAt X.K H ι st d)) ⟨e, fun y hy => ?_, ?_⟩
  · first | exact hE y (by simpa using hy) | exact hE' y (by simpa using hy)
  · refine ⟨.int c, H, I.tok _, ⟨s.toks, ?_⟩, q⟩
    rw [← hk]
section
variable {T : Tab} {g : Fns} {X : Cx} {sc scope : Scope} {N : List Str} {pos px py pt p2 p3 : Pos} {x y : Str}
theorem e_lpop {o e : Expr} {o' e' : Ex} {ap cp : Pos} (hl : (ap.endLine == cp.line) = true) (hb : attributeBase o "pop" X.env (eval o X.env) = eval o X.env) (hst : starEach [e] X.env = [(false, eval e X.env)]) (ho : PE X o (tE X.K (run g o'))) (he : PE X e (tE X.K (run g e'))) :
    PE X (.Call (.Attribute o "pop" ap) [e] [] cp) (tE X.K (run g (.lpop o' e'))) := by
  refine (pe_bm PySem.F.plainAttrs_list PySem.F.slot_list_pop PySem.F.type_list_pop mt_popN ho (pa_cons he pa_nil hst) hb (by rw [hst]; rfl) hl hst rfl).imp fun σ H Q ⟨ι, st, loc, S, L, P⟩ => ?_
  rw [run] at P
  obtain ⟨xx, st1, e1, P⟩ := bnd_inv P
  obtain ⟨u0, st0, e0, P1⟩ := bnd_inv P
  obtain ⟨yy, st2, e2, P2⟩ := bnd_inv P1
  unfold lpopD at P2
  split at P2
  · rename_i n i
    split at P2
    · rename_i ys q
      split at P2
      · rename_i h0
        split at P2
        · rename_i d hd
          simp only [lstOk] at e0
          split at e0
          · rename_i zs q0
            cases e0
            refine tE_of S L e1 fun H1 ι1 v E1 S1 r1 => ?_
            cases r1 with
            | ref hn =>
              obtain ⟨ws, w1, _⟩ := S1.ob _ _ q0
              refine ⟨.inl ⟨rfl, ws, SqL.of w1⟩, tE_of S1 (L.ext E1) e2 fun H2 ι2 v E2 S2 r2 => ?_⟩
              cases r2
              obtain ⟨vs, g1, g2⟩ := S2.ob _ _ q
              obtain ⟨w, hw, rw'⟩ := g2.get hd
              obtain ⟨E4, S4⟩ := S2.write q (VRels.erase i.toNat g2)
              have E4' : Ext H2 (upd H2 (ι2 n) (.lst (vs.eraseIdx i.toNat))) ι2 ι2 st2.length (st2.set n (O.lst (ys.eraseIdx i.toNat))).length := by rw [List.length_set]; exact E4
              have ea := E2.ad n hn
              refine ⟨ι2 n, vs, i, w, by rw [ea], rfl, g1, h0, hw, P2 _ ι2 _ ((E1.trans E2).trans E4') S4 (rw'.ext E4')⟩
          · cases e0
        · exact P2.elim
      · exact P2.elim
    · exact P2.elim
  · exact P2.elim
theorem e_cnt {o e : Expr} {o' e' : Ex} {ap cp : Pos} (hu : X.A.units + 100 < cLine) (hl : (ap.endLine == cp.line) = true) (hb : attributeBase o "count" X.env (eval o X.env) = eval o X.env) (hst : starEach [e] X.env = [(false, eval e X.env)]) (ho : PE X o (tE X.K (run g o'))) (he : PE X e (tE X.K (run g e'))) :
    PE X (.Call (.Attribute o "count" ap) [e] [] cp) (tE X.K (run g (.cnt o' e'))) := by
  refine (pe_bm PySem.F.plainAttrs_list PySem.F.slot_list_count PySem.F.type_list_count (mt_cnt hu) ho (pa_cons he pa_nil hst) hb (by rw [hst]; rfl) hl hst rfl).imp fun σ H Q ⟨ι, st, loc, S, L, P⟩ => ?_
  rw [run] at P
  obtain ⟨xx, st1, e1, P⟩ := bnd_inv P
  obtain ⟨u0, st0, e0, P1⟩ := bnd_inv P
  obtain ⟨yy, st2, e2, P2⟩ := bnd_inv P1
  unfold cntD at P2
  split at P2
  · rename_i n
    split at P2
    · rename_i ys q
      split at P2
      · rename_i c hc
        split at P2
        · simp only [lstOk] at e0
          split at e0
          · rename_i zs q0
            cases e0
            refine tE_of S L e1 fun H1 ι1 v E1 S1 r1 => ?_
            cases r1 with
            | ref hn =>
              obtain ⟨ws, w1, _⟩ := S1.ob _ _ q0
              refine ⟨.inl ⟨rfl, ws, SqL.of w1⟩, tE_of S1 (L.ext E1) e2 fun H2 ι2 v E2 S2 r2 => ?_⟩
              exact ⟨ι2, st2, n, ys, yy, v, c, by rw [E2.ad n hn], rfl, S2, q, r2, hc, (P2.mono (E1.trans E2)).same S2 (.int _)⟩
          · cases e0
        · exact P2.elim
      · exact P2.elim
    · exact P2.elim
  · exact P2.elim
end
end Ev
set_option Elab.async false
set_option linter.all false
set_option maxRecDepth 100000
set_option maxHeartbeats 8000000
namespace Ev
open PySem PySem.Spec PyProof.Rows L2
theorem LRel.extW {K : PySem.W.Frag} {H H' : Hp} {ι ι' : Nat → Addr} {m m' : Nat} {loc : Loc} {σ : L2.St} (L : LRel K H ι m loc σ) (E : ExtW H H' ι ι' m m') : LRel K H' ι' m' loc σ :=
  ⟨L.len, fun i d e => let ⟨v, h1, h2⟩ := L.at_ i d e; ⟨v, h1, VRel.extW E h2⟩⟩
theorem frzD_inv {n : Nat} {b : Bool} {st st1 : Sto} {u : Unit} (e : frzD n b st = .ok u st1) : ∃ kvs, st[n]? = some (.dtt (!b) kvs) ∧ st1 = st.set n (.dtt b kvs) := by
  unfold frzD at e
  split at e
  · split at e
    · rename_i f kvs h hf
      cases e
      exact ⟨kvs, by rw [h, hf], rfl⟩
    · cases e
  · cases e
theorem freeze_at {K : PySem.W.Frag} {H : Hp} {ι : Nat → Addr} {st st1 : Sto} {n : Nat} {u : Unit} (S : Sim K H ι st) (e : frzD n true st = .ok u st1) : ∃ vs kvs, H (ι n) = some (.dT vs) ∧ TRels K H ι st.length kvs vs ∧ st[n]? = some (.dtt false kvs) ∧ n < st.length ∧ st1.length = st.length ∧
    ∀ o, Ext H (upd H (ι n) (.frz o (.dT vs))) ι ι st.length st1.length ∧ Sim K (upd H (ι n) (.frz o (.dT vs))) ι st1 := by
  obtain ⟨kvs, h1, rfl⟩ := frzD_inv e
  have h1 : st[n]? = some (.dtt false kvs) := h1
  obtain ⟨vs, _, h3, h4⟩ := dtt_at S h1
  refine ⟨vs, kvs, h4 rfl, h3, h1, (List.getElem?_eq_some_iff.mp h1).1, by simp, fun o => ?_⟩
  obtain ⟨E, S'⟩ := S.writeT (fz := true) h1 (ho := .frz o (.dT vs)) (vs := vs) ⟨o, rfl⟩ h3
  exact ⟨by rw [List.length_set]; exact E, S'⟩
theorem thaw_at {K : PySem.W.Frag} {H1 H3 : Hp} {ι1 ι3 : Nat → Addr} {m1 : Nat} {st3 st4 : Sto} {n : Nat} {o : Obj} {vs : List (List Key × V)} {u : Unit} (hn : n < m1) (ha : H1 (ι1 n) = some (.dT vs)) (E : Ext (upd H1 (ι1 n) (.frz o (.dT vs))) H3 ι1 ι3 m1 st3.length) (S : Sim K H3 ι3 st3) (e : frzD n false st3 = .ok u st4) :
    H3 (ι1 n) = some (.frz o (.dT vs)) ∧ ExtW H3 (upd H3 (ι1 n) (.dT vs)) ι3 ι3 st3.length st4.length ∧ Ext H1 (upd H3 (ι1 n) (.dT vs)) ι1 ι3 m1 st4.length ∧ Sim K (upd H3 (ι1 n) (.dT vs)) ι3 st4 := by
  have h3 : H3 (ι1 n) = some (.frz o (.dT vs)) := E.fz _ _ _ upd_same
  have ea : ι3 n = ι1 n := E.ad n hn
  obtain ⟨kvs, g1, rfl⟩ := frzD_inv e
  obtain ⟨W, S'⟩ := S.thaw (n := n) (kvs := kvs) g1 (by rw [ea]; exact h3)
  rw [ea] at W S'
  refine ⟨h3, by rw [List.length_set]; exact W, ?_, S'⟩
  rw [List.length_set]
  refine ⟨⟨E.le, E.ad, fun b zs q => ?_, fun b ob w q => ?_⟩, fun b ob q k => ?_⟩
  · have hb : b ≠ ι1 n := ne_of q ha (by intro z; cases z)
    rw [upd_ne hb]; exact E.tp b zs (by rw [upd_ne hb]; exact q)
  · have hb : b ≠ ι1 n := ne_of q ha (by intro z; cases z)
    rw [upd_ne hb]; exact E.fz b ob w (by rw [upd_ne hb]; exact q)
  · have hb : b ≠ ι1 n := (k n hn).symm
    rw [upd_ne hb]; exact E.fr b ob (by rw [upd_ne hb]; exact q) k
theorem post_thaw {X : Cx} {H H1 : Hp} {ι ι1 : Nat → Addr} {st st1 stf : Sto} {n : Nat} {o : Obj} {vs : List (List Key × V)} {Q : VK} {m : M D} (hn : n < st1.length) (hl : stf.length = st1.length) (ha : H1 (ι1 n) = some (.dT vs)) (nf : ∀ o' w, X.H₀ (ι1 n) ≠ some (.frz o' w))
    (E1 : Ext H H1 ι ι1 st.length st1.length) (P : Post X.K H ι st (bnd m (fun r => bnd (frzD n false) fun _ => ret r) stf) Q) : Post X.K (upd H1 (ι1 n) (.frz o (.dT vs))) ι1 stf (m stf) fun v H' => Thw X (Q v) H' := by
  obtain ⟨d, st3, e3, P⟩ := bnd_inv P
  obtain ⟨u, st4, e4, P⟩ := bnd_inv P
  rw [e3]
  intro H3 ι3 v E3 S3 r3
  rw [hl] at E3
  obtain ⟨h3, W, E, S4⟩ := thaw_at hn ha E3 S3 e4
  exact .inr ⟨_, _, _, h3, nf, P _ ι3 v (E1.trans E) S4 (VRel.extW W r3)⟩
theorem Post.imp {K : PySem.W.Frag} {H : Hp} {ι : Nat → Addr} {st : Sto} {r : R D} {Q Q' : VK} (P : Post K H ι st r Q) (k : ∀ v H, Q v H → Q' v H) : Post K H ι st r Q' := by
  cases r with
  | ok d st' => exact fun H' ι' v E S r => k _ _ (P H' ι' v E S r)
  | bad => exact P
section
variable {K : PySem.W.Frag} {H0 : Hp} {ι0 : Nat → Addr} {m0 : Nat} {a : Addr} {o : Obj} {kvs : List (List Key × D)} {vs : List (List Key × V)}
theorem its_get {f : List Key × D → D} {i : Nat} {x : D} (e : (kvs.map f)[i]? = some x) : ∃ p, kvs[i]? = some p ∧ x = f p := by
  rw [List.getElem?_map] at e
  obtain ⟨p, h1, h2⟩ := Option.map_eq_some_iff.mp e
  exact ⟨p, h1, h2.symm⟩
theorem its_stop {f : List Key × D → D} {i : Nat} (r : TRels K H0 ι0 m0 kvs vs) (e : (kvs.map f)[i]? = none) : vs.length ≤ i := by
  have := List.getElem?_eq_none_iff.mp e
  rw [List.length_map, r.length] at this
  exact this
theorem Corr.dk (h : H0 a = some (.frz o (.dT vs))) (r : TRels K H0 ι0 m0 kvs vs) : Corr K (Itk o a vs) (.its (kvs.map fun kv => keyD kv.1)) H0 ι0 m0 := fun H ι st i E S => by
  simp only [nxt]
  have h' := E.fz _ _ _ h
  refine ⟨fun e => ⟨h', its_stop r (Option.some.inj e)⟩, fun x e => ?_⟩
  obtain ⟨p, e1, rfl⟩ := its_get (Option.some.inj e)
  obtain ⟨v, e2, rv⟩ := r.get e1
  refine ⟨⟨h', _, e2⟩, fun w H' ⟨hh, p', b, hp, hw, hb⟩ => ⟨hh, ?_⟩⟩
  rw [e2] at hp
  cases hp
  subst hw
  exact keyD_rel hb
theorem Corr.dv (h : H0 a = some (.frz o (.dT vs))) (r : TRels K H0 ι0 m0 kvs vs) : Corr K (Itv o a vs) (.its (kvs.map fun kv => kv.2)) H0 ι0 m0 := fun H ι st i E S => by
  simp only [nxt]
  have h' := E.fz _ _ _ h
  refine ⟨fun e => ⟨h', its_stop r (Option.some.inj e)⟩, fun x e => ?_⟩
  obtain ⟨p, e1, rfl⟩ := its_get (Option.some.inj e)
  obtain ⟨v, e2, rv⟩ := r.get e1
  refine ⟨⟨h', _, e2⟩, fun w H' ⟨hh, p', hp, hw⟩ => ⟨hh, ?_⟩⟩
  rw [e2] at hp
  cases hp
  subst hw
  exact rv.ext E
theorem CorrG.di (h : H0 a = some (.frz o (.dT vs))) (r : TRels K H0 ι0 m0 kvs vs) : CorrG K (Iti o a vs) (.its (kvs.map fun kv => .tup [keyD kv.1, kv.2])) H0 ι0 m0 := fun H ι st i E S => by
  simp only [nxt]
  have h' := E.fz _ _ _ h
  refine ⟨fun e => ⟨h', its_stop r (Option.some.inj e)⟩, fun x e => ?_⟩
  obtain ⟨p, e1, rfl⟩ := its_get (Option.some.inj e)
  obtain ⟨v, e2, rv⟩ := r.get e1
  refine ⟨⟨h', _, e2⟩, fun w H' ⟨p', b, t, hp, hw, ht, hb, hH⟩ => ?_⟩
  rw [e2] at hp
  cases hp
  subst hw hH
  obtain ⟨E1, S1⟩ := S.tup (xs := [.ref b, v]) ht
  exact ⟨E1, S1, .tup upd_same (.cons (keyD_rel (E1.tp _ _ hb)) (.cons ((rv.ext E).ext E1) .nil))⟩
theorem Corr.g {J : It} {s : Src} (F : Corr K J s H0 ι0 m0) : CorrG K J s H0 ι0 m0 := fun H ι st i E S =>
  ⟨(F H ι st i E S).1, fun x e => ⟨((F H ι st i E S).2 x e).1, fun v H' y => by
    obtain ⟨rfl, r⟩ := ((F H ι st i E S).2 x e).2 v H' y
    exact ⟨Ext.refl _ _ _, S, r⟩⟩⟩
end
section
variable {T : Tab} {g : Fns} {X : Cx} {sc scope : Scope} {N : List Str} {pos px py pt p2 p3 : Pos} {x y : Str}
theorem e_compK {it elt : Expr} {s' e' : Ex} (C : Ctx T g X sc N) (hcm : T.calm = true) (hc : compOk sc scope N x = true) (hs : PE X it (tE X.K (run g s'))) (he : ∀ fp s H, PE (cxComp X x scope fp s H) elt (tE X.K (run g e'))) (hf : ∀ v, foldedSetIterable it X.env v = pure v) :
    PE X (.ListComp elt [⟨.Name x px, it, [], 0⟩] scope pos) (tE X.K (run g (.compK s' e'))) := by
  obtain ⟨h1, h2, _, _⟩ := comp_scope C hc
  refine ((pe_comp (C.calm hcm) h1 h2 (by rw [C.n]; exact C.nd) (pi_dkeys hs) (fun _ _ _ => pts_nil) he hf).thaw).imp fun σ H Q ⟨ι, st, loc, S, L, P⟩ => ?_
  rw [run] at P
  obtain ⟨d, st1, e1, P⟩ := bnd_inv P
  unfold walkC at P
  obtain ⟨q, st2, e2, P⟩ := bnd_inv P
  obtain ⟨u, st3, e3, P⟩ := bnd_inv P
  refine tE_of S L e1 fun H1 ι1 v E1 S1 r1 => ?_
  obtain ⟨hst, hd, f3⟩ := dtt_inv e2
  rw [hst] at e3
  rw [hd] at r1
  obtain ⟨vs, kvs, ha, hr, hk, hn, hl, hE⟩ := freeze_at S1 e3
  rw [f3] at hk
  have hkk : q.2.2 = kvs := by injection hk with hk; injection hk
  rw [hkk] at P
  cases r1
  refine ⟨_, vs, rfl, ha, fun o nf => ?_⟩
  obtain ⟨E2, S2⟩ := hE o
  have F : Corr X.K (Itk o (ι1 q.1) vs) (.its (kvs.map fun kv => keyD kv.1)) (upd H1 (ι1 q.1) (.frz o (.dT vs))) ι1 st3.length := Corr.dk upd_same (by rw [hl]; exact hr.extW (by rw [hl] at E2; exact E2.toExt0.w))
  exact comp_ok (loc := loc) (f := fun loc x => bnd (run g e' (some x :: loc)) fun y => ret (some y)) elt_plain F (Ext.refl _ _ _) S2 ((L.ext E1).ext E2) (post_thaw hn hl ha nf E1 P)
noncomputable abbrev ttP (X : Cx) (g : Fns) (c' e' : Ex) (σ : L2.St) : V → Hp → (Option V → Hp → Prop) → Prop := fun v H' K => ∀ o1 o2 : Option V, gTup X.K 2 (gCons (gName 0) (gCons (gName 1) gNil)) v (o1 :: o2 :: σ) H' fun σ2 H3 => (∃ p1 p2, σ2 = p1 :: p2 :: σ) ∧ tT X.K (run g c') σ2 H3 fun b H5 => if b = true then tE X.K (run g e') σ2 H5 fun y H4 => K (some y) H4 else K none H5
theorem elt_pair {c' e' : Ex} {H : Hp} {ι : Nat → Addr} {m : Nat} {loc : Loc} {σ : L2.St} (L : LRel X.K H ι m loc σ) : EltG X.K (ttP X g c' e' σ) (pairF (fun a b => run g c' (some a :: some b :: loc)) fun a b => run g e' (some a :: some b :: loc)) H ι m where
  turn := by
    intro H2 ι2 st3 st4 z v o K E2 S2 rv ee k o1 o2
    unfold pairF at ee
    split at ee
    · cases rv with
      | tup hq rr =>
        rename_i _ da db ad ws
        cases rr with
        | cons ra rr =>
          cases rr with
          | cons rb rr =>
            cases rr
            refine ⟨ad, _, rfl, hq.t, rfl, _, _, rfl, _, _, rfl, rfl, ⟨_, _, rfl⟩, ?_⟩
            simp only [bnd, ret] at ee
            cases e4 : run g c' (some da :: some db :: loc) st3 with
            | bad => rw [e4] at ee; cases ee
            | ok z st6 =>
              rw [e4] at ee
              cases z with
              | bl bb =>
                simp only [bool?, ofO] at ee
                refine tT_of S2 (((L.ext E2).cons rb).cons ra) e4 fun H6 ι6 E6 S6 => ?_
                cases bb with
                | true =>
                  rw [if_pos rfl] at ee ⊢
                  cases e5 : run g e' (some da :: some db :: loc) st6 with
                  | bad => simp only [bnd, e5] at ee; cases ee
                  | ok w st5 =>
                    simp only [bnd, ret, e5] at ee
                    cases ee
                    exact tE_of S6 ((((L.ext E2).ext E6).cons (rb.ext E6)).cons (ra.ext E6)) e5 fun H5 ι5 w E5 S5 r5 => k H5 ι5 (some w) (E6.trans E5) S5 r5
                | false =>
                  rw [if_neg Bool.false_ne_true] at ee ⊢
                  cases ee
                  exact k H6 ι6 none E6 S6 trivial
              | _ => cases ee
    · cases ee
noncomputable def CompT (g : Fns) (X : Cx) (x y : Str) (px py : Pos) (k : Nat) (pt : Pos) (iter : Expr) (ifs : List Expr) (elt : Expr) (scope : Scope) (z : Ex) : Prop :=
  ∃ wi gg tc te, PI X (.Tuple [.Name x px, .Name y py] k pt) iter wi ∧ (∀ fp s H, PG (cxComp2 X x y scope fp s H) (.Tuple [.Name x px, .Name y py] k pt) gg) ∧ (∀ fp s H, PTs (cxComp2 X x y scope fp s H) ifs tc) ∧ (∀ fp s H, PE (cxComp2 X x y scope fp s H) elt te) ∧ (∀ v, foldedSetIterable iter X.env v = pure v) ∧
    ∀ σ H Q, tE X.K (run g z) σ H Q → tComp2c wi gg tc te σ H fun v H1 => Thw X (Q v) H1
theorem CompT.pe {k : Nat} {iter elt : Expr} {ifs : List Expr} {z : Ex} (C : Ctx T g X sc N) (hcm : T.calm = true) (hc : compOk2 sc scope N x y = true) (h : CompT g X x y px py k pt iter ifs elt scope z) : PE X (.ListComp elt [⟨.Tuple [.Name x px, .Name y py] k pt, iter, ifs, 0⟩] scope pos) (tE X.K (run g z)) := by
  obtain ⟨wi, gg, tc, te, a, b, c, d, e, f⟩ := h
  obtain ⟨h1, h2, _, _⟩ := comp_scope C (comp2_parts hc).1
  exact ((pe_comp2c (C.calm hcm) h1 a b c d e).thaw).imp f
theorem CompT.ps {k i : Nat} {iter elt : Expr} {ifs : List Expr} {z : Ex} {nm : Str} {pn spos : Pos} (C : Ctx T g X sc N) (hcm : T.calm = true) (hc : compOk2 sc scope N x y = true) (h : CompT g X x y px py k pt iter ifs elt scope z) (hz : X.N[i]? = some nm) (hl : L2.Loc X.env.scope nm) (hf : X.fn nm = true ∨ X.env.scope.names.lookup nm = some .local) :
    PS X (.Assign [.Name nm pn] (.ListComp elt [⟨.Tuple [.Name x px, .Name y py] k pt, iter, ifs, 0⟩] scope pos) spos) (tAsg (tE X.K (run g z)) (gName i)) := by
  obtain ⟨wi, gg, tc, te, a, b, c, d, e, f⟩ := h
  obtain ⟨h1, h2, _, _⟩ := comp_scope C (comp2_parts hc).1
  exact fun pins s σ H D I q => (ps_setComp2 (C.calm hcm) h1 (by rw [C.n]; exact C.nd) a b c d e hz hl hf).thaw pins s σ H D I (f σ H (fun v H1 => D.nx (σ.set i (some v)) H1) q)
theorem comp2_tg (C : Ctx T g X sc N) (hcm : T.calm = true) (hc : compOk2 sc scope N x y = true) {k : Nat} (fp : List Addr) (s : Shared) (H : Hp) : PG (cxComp2 X x y scope fp s H) (.Tuple [.Name x px, .Name y py] k pt) (gTup X.K 2 (gCons (gName 0) (gCons (gName 1) gNil))) := by
  obtain ⟨h1, h2, h3, h5, h6⟩ := comp2_parts hc
  obtain ⟨c1, c2, _, _⟩ := comp_scope C h1
  have lx : (relabel scope X.env).names.lookup x = some .local := lookup_relabel_local c1.own
  have ly : (relabel scope X.env).names.lookup y = some .local := lookup_relabel_local h2
  have nd : (x :: y :: mkN scope X.N).Nodup := by
    have := (ctx_comp2 C hc [] X.s₀ (fun _ => none)).nd
    rw [C.n]; exact this
  exact pg_tup (X := cxComp2 X x y scope fp s H) (C.calm hcm) (pgs_cons (pg_name (i := 0) nd rfl (.inl lx) (.inr lx)) (pgs_cons (pg_name (i := 1) nd rfl (.inl ly) (.inr ly)) pgs_nil))
theorem e_comp2 {k : Nat} {elt it c : Expr} {s' c' e' : Ex} (C : Ctx T g X sc N) (hcm : T.calm = true) (hc : compOk2 sc scope N x y = true) (hs : PE X it (tE X.K (run g s'))) (hf : ∀ v, foldedSetIterable it X.env v = pure v) (ht : ∀ fp s H, PT (cxComp2 X x y scope fp s H) c (tT X.K (run g c'))) (he : ∀ fp s H, PE (cxComp2 X x y scope fp s H) elt (tE X.K (run g e'))) :
    CompT g X x y px py k pt it [c] elt scope (.comp2 s' c' e') := by
  refine ⟨_, _, _, _, pi_seq hs, comp2_tg C hcm hc, fun fp s H => pts_one (ht fp s H), he, hf, fun σ H Q ⟨ι, st, loc, S, L, P⟩ => ?_⟩
  rw [run] at P
  exact src_seq (k := fun loc s => compS (pairF (fun a b => run g c' (some a :: some b :: loc)) fun a b => run g e' (some a :: some b :: loc)) s) (Q := Q) ⟨ι, st, loc, S, L, P⟩
    (fun {J s ι ι1 st st1 loc H1} F E S1 L1 P1 => comp_okG (tt := ttP X g c' e' σ) (Q := fun v H1 => Thw X (Q v) H1) (elt_pair L1) F.g E S1 (P1.imp fun v H' q => Or.inl q)) (fun _ => comp_bad)
theorem e_compI {k : Nat} {elt d c : Expr} {s' c' e' : Ex} {ap cp : Pos} (C : Ctx T g X sc N) (hcm : T.calm = true) (hc : compOk2 sc scope N x y = true) (hl : (ap.endLine == cp.line) = true) (hb : attributeBase d "items" X.env (eval d X.env) = eval d X.env) (hs : PE X d (tE X.K (run g s'))) (ht : ∀ fp s H, PT (cxComp2 X x y scope fp s H) c (tT X.K (run g c'))) (he : ∀ fp s H, PE (cxComp2 X x y scope fp s H) elt (tE X.K (run g e'))) :
    CompT g X x y px py k pt (.Call (.Attribute d "items" ap) [] [] cp) [c] elt scope (.compI s' c' e') := by
  refine ⟨_, _, _, _, pi_ditems hs hb hl, comp2_tg C hcm hc, fun fp s H => pts_one (ht fp s H), he, fun _ => rfl, fun σ H Q ⟨ι, st, loc, S, L, P⟩ => ?_⟩
  rw [run] at P
  obtain ⟨d, st1, e1, P⟩ := bnd_inv P
  unfold walkC at P
  obtain ⟨q, st2, e2, P⟩ := bnd_inv P
  obtain ⟨u, st3, e3, P⟩ := bnd_inv P
  refine tE_of S L e1 fun H1 ι1 v E1 S1 r1 => ?_
  obtain ⟨hst, hd, f3⟩ := dtt_inv e2
  rw [hst] at e3
  rw [hd] at r1
  obtain ⟨vs, kvs, ha, hr, hk, hn, hl, hE⟩ := freeze_at S1 e3
  rw [f3] at hk
  have hkk : q.2.2 = kvs := by injection hk with hk; injection hk
  rw [hkk] at P
  cases r1
  refine ⟨_, vs, rfl, ha, fun o nf => ?_⟩
  obtain ⟨E2, S2⟩ := hE o
  have F : CorrG X.K (Iti o (ι1 q.1) vs) (.its (kvs.map fun kv => .tup [keyD kv.1, kv.2])) (upd H1 (ι1 q.1) (.frz o (.dT vs))) ι1 st3.length := CorrG.di upd_same (by rw [hl]; exact hr.extW (by rw [hl] at E2; exact E2.toExt0.w))
  exact comp_okG (tt := ttP X g c' e' σ) (elt_pair ((L.ext E1).ext E2)) F (Ext.refl _ _ _) S2 (post_thaw hn hl ha nf E1 P)
end
end Ev
set_option Elab.async false
set_option linter.all false
set_option maxRecDepth 100000
set_option maxHeartbeats 16000000
namespace Ev
open PySem PySem.Spec PyProof.Rows L2
noncomputable def Plain (es : List Expr) (env : Env) (pos : Pos) : Prop := (backTo pos (starEach es env)).any (·.1) = false
theorem plain_cons {e : Expr} {es : List Expr} {env : Env} {pos : Pos} (h : starEach (e :: es) env = (false, eval e env) :: starEach es env) (k : Plain es env pos) : Plain (e :: es) env pos := by
  unfold Plain at k ⊢
  rw [h]
  simpa [backTo] using k
noncomputable def SE (T : Tab) (g : Fns) (n : Nat) : Prop := ∀ {X : Cx} {sc : Scope} {N : List Str} {e : Expr} {x : Ex}, Ctx T g X sc N → cE T n sc N e = some x → PE X e (tE X.K (run g x)) ∧ PT X e (tT X.K (run g x))
noncomputable def SEs (T : Tab) (g : Fns) (n : Nat) : Prop := ∀ {X : Cx} {sc : Scope} {N : List Str} {es : List Expr} {xs : List Ex}, Ctx T g X sc N → cEs T n sc N es = some xs →
  PA X es (tA X.K (runs g xs)) ∧ es.length = xs.length ∧ (∀ pos, Plain es X.env pos) ∧ ∀ e r, es = e :: r → starEach (e :: r) X.env = (false, eval e X.env) :: starEach r X.env ∧ ∀ pos, Plain r X.env pos
noncomputable def SC (T : Tab) (g : Fns) (n : Nat) : Prop := ∀ {X : Cx} {sc scope : Scope} {N : List Str} {x : Str} {elt src : Expr} {ifs : List Expr} {y : Ex} {px : Pos}, Ctx T g X sc N → compOk sc scope N x = true →
  (∀ p3 p4, isGlob sc "range" = true → cComp T n sc N src x elt ifs scope = some y → CompD g X x px (.Call (.Name "range" p3) [src] [] p4) ifs elt scope y)
theorem ses_step {T : Tab} {g : Fns} {n : Nat} (h : SE T g n) (hs : SEs T g n) : SEs T g (n + 1) := by
  intro X sc N es xs C e
  unfold cEs at e
  split at e
  · cases e
    refine ⟨pa_nil.imp fun σ H Q ⟨ι, st, loc, S, L, P⟩ => ?_, rfl, fun pos => rfl, fun _ _ z => nomatch z⟩
    rw [runs] at P
    exact P H ι [] (Ext.refl _ _ _) S .nil
  · split at e
    · rename_i a0 as0 _ _ e1 r1 e2 r2
      cases e
      have h1 := h C e2
      obtain ⟨h2, h3, h4, _⟩ := hs C r2
      have st := cE_star e2 as0 X.env
      refine ⟨(pa_cons h1.1 h2 st).imp fun σ H Q ⟨ι, st, loc, S, L, P⟩ => ?_, by simp [h3], fun pos => plain_cons st (h4 pos), fun a b z => by cases z; exact ⟨st, h4⟩⟩
      rw [runs] at P
      obtain ⟨d, st1, e1, P⟩ := bnd_invA (β := D) P
      obtain ⟨ds, st2, e2, P⟩ := bnd_invA (β := D) P
      exact tE_of S L e1 fun H1 ι1 v E1 S1 r1 => tA_of S1 (L.ext E1) e2 fun H2 ι2 vs E2 S2 r2 => P H2 ι2 (v :: vs) (E1.trans E2) S2 (.cons (r1.ext E2) r2)
    · cases e
theorem sc_step {T : Tab} {g : Fns} {n : Nat} (h : SE T g n) : SC T g (n + 1) := by
  intro X sc scope N x elt src ifs y px C hc
  refine fun p3 p4 hg e => ?_
  · unfold cComp at e
    split at e
    · rename_i s' e' e1 e2
      have h1 := h C e1
      have h2 := fun fp s H => (h (ctx_comp C hc fp s H) e2).1
      have st := cE_star e1 [] X.env
      split at e
      · cases e
        exact e_compR C hc hg st h1.1 h2
      · cases e
    · cases e
theorem both {X : Cx} {e : Expr} {m : Loc → M D} (h : PE X e (tE X.K m)) (he : ∀ whole, isTrue e X.env whole = (do let v ← whole; standAt e.pos; holding [v] (truthy v))) : PE X e (tE X.K m) ∧ PT X e (tT X.K m) := ⟨h, pt_plain h he⟩
theorem map_some {α β : Type} {f : α → β} {o : Option α} {b : β} (h : o.map f = some b) : ∃ a, o = some a ∧ b = f a := by
  cases o with
  | none => cases h
  | some a => exact ⟨a, rfl, (Option.some.inj h).symm⟩
noncomputable def ST2 (T : Tab) (g : Fns) (n : Nat) : Prop := ∀ {X : Cx} {sc scope : Scope} {N : List Str} {t it elt : Expr} {ifs : List Expr} {z : Ex}, Ctx T g X sc N → T.calm = true → cT2 T n sc N t it ifs elt scope = some z →
  ∃ x y px py k pt, t = .Tuple [.Name x px, .Name y py] k pt ∧ compOk2 sc scope N x y = true ∧ CompT g X x y px py k pt it ifs elt scope z
noncomputable def ST (T : Tab) (g : Fns) (n : Nat) : Prop := ∀ {X : Cx} {sc : Scope} {N : List Str} {e : Expr} {x : Ex}, Ctx T g X sc N → cT T n sc N e = some x → PE X e (tE X.K (run g x)) ∧ PT X e (tT X.K (run g x))
theorem inNeg_inv {op : CmpOp} {neg : Bool} (h : inNeg op = some neg) : op = inOp neg := by
  cases op <;> cases h <;> rfl
theorem st2_step {T : Tab} {g : Fns} {n : Nat} (h : SE T g n) : ST2 T g (n + 1) := by
  intro X sc scope N t it elt ifs z C hcm e
  unfold cT2 at e
  split at e
  · rename_i x y c hp
    obtain ⟨px, py, k, pt, rfl⟩ := pairT?_inv hp
    split at e
    · rename_i hc
      split at e
      · rename_i c' e' e1 e2
        have ht := fun fp s H => (h (ctx_comp2 C hc fp s H) e1).2
        have he := fun fp s H => (h (ctx_comp2 C hc fp s H) e2).1
        split at e
        · rename_i d hw
          obtain ⟨ap, cp, rfl, hl, hd⟩ := walkOf_inv hw
          obtain ⟨s', es, rfl⟩ := map_some e
          exact ⟨x, y, px, py, k, pt, rfl, hc, e_compI C hcm hc hl (base_no (dn_name hd) _ _) (h C es).1 ht he⟩
        · obtain ⟨s', es, rfl⟩ := map_some e
          exact ⟨x, y, px, py, k, pt, rfl, hc, e_comp2 C hcm hc (h C es).1 (cE_fold es X.env) ht he⟩
      · cases e
    · cases e
  · cases e
theorem st_step {T : Tab} {g : Fns} {n : Nat} (h : SE T g n) (h2 : ST2 T g n) : ST T g (n + 1) := by
  intro X sc N e x C ex
  unfold cT at ex
  split at ex
  · split at ex
    · split at ex
      · split at ex
        · rename_i h1 e1 e2
          cases ex
          rw [inNeg_inv h1]
          exact ⟨e_din C.un (cE_marks e2 _) (h C e1).1 (h C e2).1, t_din C.un (cE_marks e2 _) (h C e1).1 (h C e2).1⟩
        · cases ex
      · cases ex
    · cases ex
  · split at ex
    · rename_i hd
      simp only [Bool.and_eq_true] at hd
      split at ex
      · rename_i e1 e2
        cases ex
        exact both (e_dix C.un hd.2 (h C e1).1 (h C e2).1) fun _ => rfl
      · cases ex
    · cases ex
  · split at ex
    · cases ex
      exact both (e_empT (X := X) (g := g)) fun _ => rfl
    · cases ex
  · split at ex
    · split at ex
      · rename_i hfe
        obtain ⟨pfe, rfl⟩ := nm?_inv hfe
        split at ex
        · rename_i hg
          simp only [Bool.and_eq_true] at hg
          split at ex
          · rename_i F hF
            obtain ⟨a', ha, rfl⟩ := map_some ex
            have hst := cE_star ha [] X.env
            unfold fnK at hF
            split at hF
            · rename_i hf
              obtain ⟨rfl, _⟩ := hf
              cases hF
              exact both (e_dlen C hg.1 hst (h C ha).1) fun _ => rfl
            · split at hF
              · rename_i hf
                obtain ⟨rfl, _⟩ := hf
                cases hF
                exact both (e_lkeys C hg.2 hg.1 hst (h C ha).1) fun _ => rfl
              · split at hF
                · rename_i hf
                  subst hf
                  cases hF
                  exact both (e_dictL C hg.2 hg.1 hst (h C ha).1) fun _ => rfl
                · cases hF
          · cases ex
        · cases ex
      · split at ex
        · rename_i hat
          cases attr?_inv hat
          split at ex
          · rename_i hl
            simp only [Bool.and_eq_true] at hl
            split at ex
            · rename_i F hF
              split at ex
              · rename_i o' a' eo ea
                cases ex
                have hst := cE_star ea [] X.env
                unfold mtK at hF
                split at hF
                · rename_i hf
                  obtain ⟨rfl, _⟩ := hf
                  cases hF
                  exact both (e_dpop C.un (m1_of hl.1 (base_no hl.2 _ _) hst) (h C eo).1 (h C ea).1) fun _ => rfl
                · split at hF
                  · rename_i hf
                    obtain ⟨rfl, _⟩ := hf
                    cases hF
                    exact both (e_lpop hl.1 (base_no hl.2 _ _) hst (h C eo).1 (h C ea).1) fun _ => rfl
                  · split at hF
                    · rename_i hf
                      subst hf
                      cases hF
                      exact both (e_cnt C.un hl.1 (base_no hl.2 _ _) hst (h C eo).1 (h C ea).1) fun _ => rfl
                    · cases hF
              · cases ex
            · cases ex
          · cases ex
        · cases ex
    · split at ex
      · rename_i hat
        cases attr?_inv hat
        split at ex
        · rename_i hl
          simp only [Bool.and_eq_true] at hl
          have hm := of_decide_eq_true hl.2
          subst hm
          split at ex
          · rename_i o' a' b' eo ea eb
            cases ex
            have hst : starEach [_, _] X.env = [(false, eval _ X.env), (false, eval _ X.env)] := (cE_star ea [_] X.env).trans (by rw [cE_star eb [] X.env]; rfl)
            exact both (e_dget C.un (m2_of hl.1.1 (base_no (dn_name hl.1.2) _ _) hst) (h C eo).1 (h C ea).1 (h C eb).1) fun _ => rfl
          · cases ex
        · cases ex
      · cases ex
    · cases ex
  · split at ex
    · split at ex
      · rename_i hk
        obtain ⟨rfl, hcm⟩ := hk
        split at ex
        · rename_i ht
          obtain ⟨_, rfl⟩ := nm?_inv ht
          split at ex
          · rename_i hc
            simp only [Bool.and_eq_true] at hc
            split at ex
            · rename_i s' e' e1 e2
              cases ex
              have hi := List.isEmpty_iff.mp hc.2
              subst hi
              exact both (e_compK C hcm hc.1.1 (h C e1).1 (fun fp s H => (h (ctx_comp C hc.1.1 fp s H) e2).1) (cE_fold e1 X.env)) fun _ => rfl
            · cases ex
          · cases ex
        · obtain ⟨x, y, px, py, k, pt, rfl, hc, hd⟩ := h2 C hcm ex
          exact both (hd.pe C hcm hc) fun _ => rfl
      · cases ex
    · cases ex
  · cases ex
theorem se_step {T : Tab} {g : Fns} {n : Nat} (ht : ST T g n) (h : SE T g n) (hs : SEs T g n) (hc : SC T g n) : SE T g (n + 1) := by
  intro X sc N e x C ex
  unfold cE at ex
  split at ex
  · rename_i r hr
    cases ex
    exact ht C hr
  split at ex
  · split at ex
    · cases ex; exact both (e_const (X := X) (g := g) pe_int (d := .int _) (fun _ _ _ => .int _)) fun _ => rfl
    · cases ex; exact both (e_const (X := X) (g := g) pe_str (d := .str _) (fun _ _ _ => .str _)) fun _ => rfl
    · cases ex; exact both (e_const (X := X) (g := g) pe_bl (d := .bl _) (fun _ _ _ => .bl _)) fun _ => rfl
    · cases ex
  · split at ex
    · rename_i q
      obtain ⟨i, hi, rfl⟩ := map_some ex
      exact both (e_var C hi (.inl q)) fun _ => rfl
    · rename_i q
      obtain ⟨i, hi, rfl⟩ := map_some ex
      exact both (e_var C hi (.inr (.inl q))) fun _ => rfl
    · rename_i q
      obtain ⟨i, hi, rfl⟩ := map_some ex
      exact both (e_var C hi (.inr (.inr q))) fun _ => rfl
    · cases ex
  · split at ex
    · rename_i hz
      obtain ⟨xs, hx, rfl⟩ := map_some ex
      obtain ⟨h1, h2, _⟩ := hs C hx
      exact both (e_tup h1 hz h2) fun _ => rfl
    · cases ex
  · split at ex
    · rename_i hz
      obtain ⟨xs, hx, rfl⟩ := map_some ex
      obtain ⟨h1, h2, _⟩ := hs C hx
      exact both (e_lst h1 hz h2) fun _ => rfl
    · cases ex
  · split at ex
    · rename_i e1 e2 e3
      cases ex
      exact both (e_bin e2 (h C e1).1 (h C e3).1) fun _ => rfl
    · cases ex
  · split at ex
    · obtain ⟨a', ha, rfl⟩ := map_some ex
      exact ⟨e_not (h C ha).1, t_not (h C ha).2⟩
    · cases ex
  · split at ex
    · cases ex
    · exact ⟨pe_one (h C ex).1, t_one (h C ex).2⟩
    · split at ex
      · split at ex
        · rename_i e1 e2
          cases ex
          exact ⟨e_and (h C e1).1 (h C e2).1, t_and (h C e1).2 (h C e2).2⟩
        · cases ex
      · split at ex
        · rename_i e1 e2
          cases ex
          exact ⟨e_or (h C e1).1 (h C e2).1, t_or (h C e1).2 (h C e2).2⟩
        · cases ex
  · split at ex
    · split at ex
      · rename_i e1 e2
        cases ex
        exact ⟨e_cmp C.un (cE_marks e2 _) (h C e1).1 (h C e2).1, t_cmp C.un (cE_marks e2 _) (h C e1).1 (h C e2).1⟩
      · cases ex
    · cases ex
  · split at ex
    · rename_i hp
      split at ex
      · rename_i e1 e2
        cases ex
        exact both (e_ix C.un hp (h C e1).1 (h C e2).1) fun _ => rfl
      · cases ex
    · split at ex
      · split at ex
        · cases ex
        · split at ex
          · split at ex
            · cases ex
            · split at ex
              · rename_i e1 e2
                cases ex
                exact both (e_sl (h C e1).1 po_none (po_some (h C e2).1) part_no part_yes) fun _ => rfl
              · cases ex
          · cases ex
      · cases ex
  · split at ex
    · cases ex
    · split at ex
      · rename_i hfe
        obtain ⟨pfe, rfl⟩ := nm?_inv hfe
        split at ex
        · cases ex
        · rename_i hg
          rw [Bool.not_eq_false] at hg
          split at ex
          · cases ex
          · split at ex
            · rename_i hi
              obtain ⟨xs, hx, rfl⟩ := map_some ex
              obtain ⟨h1, h2, _, h3⟩ := hs C hx
              obtain ⟨h4, h5⟩ := h3 _ _ rfl
              exact both (e_fn C hg hi h1 h2 h4 (h5 _)) fun _ => rfl
            · split at ex
              · rename_i hb
                split at ex
                · rename_i hcm
                  obtain ⟨xs, hx, rfl⟩ := map_some ex
                  obtain ⟨h1, h2, _, h3⟩ := hs C hx
                  obtain ⟨h4, h5⟩ := h3 _ _ rfl
                  exact both (e_bt C hcm hg hb h1 h4 (h5 _)) fun _ => rfl
                · cases ex
              · split at ex
                · rename_i hf
                  subst hf
                  split at ex
                  · split at ex
                    · rename_i hgt
                      split at ex
                      · rename_i ty a' ht ha
                        cases ex
                        exact both (e_isi C hg hgt ht (h C ha).1 (cE_star ha _ _)) fun _ => rfl
                      · cases ex
                    · cases ex
                  · cases ex
                · cases ex
      · split at ex
        · split at ex
          · rename_i hm
            simp only [Bool.and_eq_true] at hm
            split at ex
            · rename_i fr hfr
              obtain ⟨o', ho, rfl⟩ := map_some ex
              unfold popArg at hfr
              split at hfr
              · cases hfr
                exact both (e_popL hm.1.1 hm.1.2 (base_no hm.2 _ _) (h C ho).1) fun _ => rfl
              · split at hfr
                · rename_i hi
                  subst hi
                  cases hfr
                  exact both (e_popF hm.1.1 hm.1.2 (base_no hm.2 _ _) (h C ho).1) fun _ => rfl
                · cases hfr
              · cases hfr
            · cases ex
          · cases ex
        · cases ex
  · split at ex
    · split at ex
      · rename_i k0
        subst k0
        split at ex
        · rename_i ht
          obtain ⟨_, rfl⟩ := nm?_inv ht
          split at ex
          · rename_i hk
            obtain ⟨hcm, hk⟩ := hk
            split at ex
            · rename_i ra hra
              obtain ⟨_, _, rfl⟩ := call1?_inv hra
              split at ex
              · rename_i hr
                obtain ⟨hr1, hr⟩ := hr
                rw [hr1] at hr ⊢
                exact both (((hc C hk) _ _ hr ex).pe C hcm hk) fun _ => rfl
              · cases ex
            · cases ex
          · cases ex
        · cases ex
      · cases ex
    · cases ex
  · cases ex
theorem sound (T : Tab) (g : Fns) : ∀ n, SE T g n ∧ SEs T g n ∧ SC T g n ∧ ST T g n ∧ ST2 T g n
  | 0 => by
    refine ⟨?_, ?_, ?_, ?_, ?_⟩
    · intro X sc N e x C h
      unfold cE at h
      cases h
    · intro X sc N e x C h
      unfold cEs at h
      cases h
    · intro X sc scope N x elt src ifs y px C hc
      refine fun _ _ _ h => ?_
      unfold cComp at h
      cases h
    · intro X sc N e x C h
      unfold cT at h
      cases h
    · intro X sc scope N t it elt ifs z C hcm h
      unfold cT2 at h
      cases h
  | n + 1 => by
    obtain ⟨a, b, c, e, f⟩ := sound T g n
    exact ⟨se_step e a b c, ses_step a b, sc_step a, st_step a f, st2_step a⟩
end Ev
set_option Elab.async false
set_option linter.all false
set_option maxRecDepth 100000
set_option maxHeartbeats 16000000
namespace Ev
open PySem PySem.Spec PyProof.Rows L2
noncomputable def isLocal (sc : Scope) (x : Str) : Bool := sc.names.lookup x == some .local || sc.names.lookup x == some .cell
noncomputable def isComp : Expr → Bool
  | .ListComp .. => true
  | _ => false
noncomputable def isExtend (s : Str) : Bool := s == "extend"
noncomputable def isClear (s : Str) : Bool := s == "clear"
noncomputable def isAppend (s : Str) : Bool := s == "append"
noncomputable def tixs (sc : Scope) (N : List Str) : List Expr → Option (List Nat)
  | [] => some []
  | .Name x _ :: r => if isLocal sc x then (match ixOf N x, tixs sc N r with
    | some i, some is => some (i :: is)
    | _, _ => none) else none
  | _ :: _ => none
noncomputable def sub? : Expr → Option (Expr × Expr)
  | .Subscript o i _ => some (o, i)
  | _ => none
theorem sub?_inv {e o i : Expr} (h : sub? e = some (o, i)) : ∃ p, e = .Subscript o i p := by
  cases e <;> cases h
  exact ⟨_, rfl⟩
noncomputable def plainV : Expr → Bool
  | .Constant .. => true
  | .Call .. => true
  | .Tuple .. => true
  | _ => false
noncomputable def augNeg : Operator → Option Bool
  | .Add => some false
  | .Sub => some true
  | _ => none
noncomputable def comp2? : Expr → Option (Expr × Expr × Expr × List Expr × Int × Scope)
  | .ListComp elt gens scope _ => (match gens with
    | [⟨t, it, ifs, k⟩] => (match nm? t with
      | some _ => none
      | none => some (elt, t, it, ifs, k, scope))
    | _ => none)
  | _ => none
theorem comp2?_inv {e elt t it : Expr} {ifs : List Expr} {k : Int} {scope : Scope} (h : comp2? e = some (elt, t, it, ifs, k, scope)) : ∃ p, e = .ListComp elt [⟨t, it, ifs, k⟩] scope p := by
  unfold comp2? at h
  split at h
  · split at h
    · split at h
      · cases h
      · cases h; exact ⟨_, rfl⟩
    · cases h
  · cases h
noncomputable def isDpop : Expr → Bool
  | .Call (.Attribute o _ _) _ _ _ => dn o
  | _ => false
noncomputable def cX (T : Tab) (n : Nat) (sc : Scope) (N : List Str) (s : Stmt) : Option S := match s with
  | .Assign ts e _ => (match ts with
    | [t] => (match nm? t with
      | some x => (match comp2? e with
        | some (elt, t2, it, ifs, k, scope) => if isLocal sc x ∧ k = 0 ∧ T.calm = true then (match ixOf N x, cT2 T n sc N t2 it ifs elt scope with
          | some i, some e' => some (.set i e')
          | _, _ => none) else none
        | none => none)
      | none => (match sub? t with
        | some (o, i) => if plainSub i && plainV e then (match cE T n sc N o, cE T n sc N i, cE T n sc N e with
          | some o', some i', some e' => some (if dn o then .dset o' i' e' else .setix o' i' e')
          | _, _, _ => none) else none
        | none => none))
    | _ => none)
  | .AugAssign t op e _ => (match sub? t with
    | some (o, i) => if plainSub i && dn o then (match augNeg op, cE T n sc N o, cE T n sc N i, cE T n sc N e with
      | some neg, some o', some i', some e' => some (.daug neg o' i' e')
      | _, _, _, _ => none) else none
    | none => none)
  | .Expr e _ => if isDpop e then (cE T n sc N e).map .ex else none
  | _ => none
noncomputable def dwalk (it : Expr) : Option (Bool × Expr) := if dn it then some (false, it) else (walkOf "values" it).map fun d => (true, d)
mutual
noncomputable def cS (T : Tab) (n : Nat) (sc : Scope) (N : List Str) (s : Stmt) : Option S := match n with
  | 0 => none
  | n + 1 => match cX T n sc N s with
   | some r => some r
   | none => match s with
    | .Assign ts e _ => (match ts with
      | [t] => (match nm? t with
        | some x => if isLocal sc x && !isComp e then (match ixOf N x, cE T n sc N e with
          | some i, some e' => some (.set i e')
          | _, _ => none) else none
        | none => none)
      | _ => none)
    | .Return v _ => (match v with
      | some e => (match cE T n sc N e with
        | some e' => some (.ret e')
        | none => none)
      | none => none)
    | .Expr e _ => (match e with
      | .Call fe args kw cp => (match kw with
        | _ :: _ => none
        | [] => (match fe with
          | .Attribute o m ap => (match args with
            | [] => if isClear m && (ap.endLine == cp.line) && isNameE o then (cE T n sc N o).map .clr else none
            | [e] => if isAppend m && (ap.endLine == cp.line) && isNameE o then (match cE T n sc N o, cE T n sc N e with
                | some o', some e' => some (.app o' e')
                | _, _ => none) else if isExtend m && (ap.endLine == cp.line) && isNameE o then (match cE T n sc N o, cE T n sc N e with
                | some o', some e' => some (.ext o' e')
                | _, _ => none) else none
            | _ => none)
          | _ => none))
      | _ => none)
    | .If c a b _ => match cE T n sc N c, cSs T n sc N a, cSs T n sc N b with
      | some c', some a', some b' => some (.ite c' a' b')
      | _, _, _ => none
    | .For t it body els _ => (match els with
      | _ :: _ => none
      | [] => (match nm? t with
        | some x => if isLocal sc x = true ∧ T.calm = true then (match ixOf N x, cSs T n sc N body with
          | some i, some b' => (match dwalk it with
           | some (vl, d) => (cE T n sc N d).map fun d' => if vl then .forV i d' b' else .forK i d' b'
           | none => (match call1? it with
            | some ra => if ra.1 = "range" ∧ isGlob sc ra.1 = true then (cE T n sc N ra.2).map fun a' => .for_ i true a' b' else (cE T n sc N it).map fun a' => .for_ i false a' b'
            | none => (cE T n sc N it).map fun a' => .for_ i false a' b'))
          | _, _ => none) else none
        | none => (match t with
          | .Tuple ts _ _ => if T.calm = true then (match tixs sc N ts, cE T n sc N it, cSs T n sc N body with
            | some is, some a', some b' => some (.forU is a' b')
            | _, _, _ => none) else none
          | _ => none)))
    | .While c body els _ => (match els with
      | [] => (match cE T n sc N c, cSs T n sc N body with
        | some c', some b' => some (.whil c' b')
        | _, _ => none)
      | _ :: _ => none)
    | _ => none
noncomputable def cSs (T : Tab) (n : Nat) (sc : Scope) (N : List Str) (ss : List Stmt) : Option (List S) := match n with
  | 0 => none
  | n + 1 => match ss with
    | [] => some []
    | s :: r => match cS T n sc N s, cSs T n sc N r with
      | some s', some r' => some (s' :: r')
      | _, _ => none
end
noncomputable def PostS (K : PySem.W.Frag) (Xw : Addr → L2.St → Hp → Prop) (H : Hp) (ι : Nat → Addr) (st : Sto) (r : R Fl) (D : Ends) : Prop := match r with
  | .ok (.nx loc) st' => ∀ H' ι' σ', Ext H H' ι ι' st.length st'.length → Sim K H' ι' st' → LRel K H' ι' st'.length loc σ' → D.nx σ' H'
  | .ok (.rt d) st' => ∀ H' ι' v, Ext H H' ι ι' st.length st'.length → Sim K H' ι' st' → VRel K H' ι' st'.length d v → D.rt v H'
  | .ok (.ex n loc) st' => ∀ H' ι' σ', Ext H H' ι ι' st.length st'.length → Sim K H' ι' st' → LRel K H' ι' st'.length loc σ' → Xw (ι' n) σ' H'
  | .bad => False
noncomputable def tS (K : PySem.W.Frag) (Xw : Addr → L2.St → Hp → Prop) (m : Loc → M Fl) : TS := fun D σ H => ∃ ι st loc, Sim K H ι st ∧ LRel K H ι st.length loc σ ∧ PostS K Xw H ι st (m loc st) D
section
variable {K : PySem.W.Frag} {Xw : Addr → L2.St → Hp → Prop} {H : Hp} {ι : Nat → Addr} {st : Sto}
theorem bnd_invS {α : Type} {m : M α} {f : α → M Fl} {st0 : Sto} {D : Ends} (P : PostS K Xw H ι st (bnd m f st0) D) : ∃ a st1, m st0 = .ok a st1 ∧ PostS K Xw H ι st (f a st1) D := by
  unfold bnd at P
  cases e : m st0 with
  | ok a st1 => rw [e] at P; exact ⟨a, st1, rfl, P⟩
  | bad => rw [e] at P; exact P.elim
theorem PostS.mono {r : R Fl} {D : Ends} {H1 : Hp} {ι1 : Nat → Addr} {st1 : Sto} (P : PostS K Xw H ι st r D) (E : Ext H H1 ι ι1 st.length st1.length) : PostS K Xw H1 ι1 st1 r D := by
  cases r with
  | ok f st2 =>
    cases f with
    | nx loc => exact fun H' ι' σ' E' S' r' => P H' ι' σ' (E.trans E') S' r'
    | rt d => exact fun H' ι' v E' S' r' => P H' ι' v (E.trans E') S' r'
    | ex n loc => exact fun H' ι' σ' E' S' r' => P H' ι' σ' (E.trans E') S' r'
  | bad => exact P
end
theorem _root_.L2.PS.imp {X : Cx} {s : Stmt} {t t' : TS} (h : PS X s t) (k : ∀ D σ H, t' D σ H → t D σ H) : PS X s t' := fun pins s σ H D I q => h pins s σ H D I (k D σ H q)
theorem _root_.L2.PSs.imp {X : Cx} {s : List Stmt} {t t' : TS} (h : PSs X s t) (k : ∀ D σ H, t' D σ H → t D σ H) : PSs X s t' := fun pins s σ H D I q => h pins s σ H D I (k D σ H q)
section
variable {T : Tab} {g : Fns} {X : Cx} {sc : Scope} {N : List Str} {pos p2 p3 : Pos} {Xw : Addr → L2.St → Hp → Prop}
theorem loc_of (C : Ctx T g X sc N) {x : Str} (h : isLocal sc x = true) : L2.Loc X.env.scope x := by
  show X.env.scope.names.lookup x = _ ∨ X.env.scope.names.lookup x = _
  rw [C.sc]
  simpa [isLocal] using h
theorem rd_set {e' : Ex} {i : Nat} {D : Ends} {σ : L2.St} {H : Hp} (h : tS X.K Xw (exec g (.set i e')) D σ H) : tAsg (tE X.K (run g e')) (gName i) D σ H := by
  obtain ⟨ι, st, loc, S, L, P⟩ := h
  rw [exec] at P
  obtain ⟨d, st1, e1, P⟩ := bnd_invS P
  exact tE_of S L e1 fun H1 ι1 v E1 S1 r1 => P H1 ι1 _ E1 S1 ((L.ext E1).set i r1)
theorem s_setix {o i e : Expr} {o' i' e' : Ex} (hp : plainSub i = true) (ho : PE X o (tE X.K (run g o'))) (hi : PE X i (tE X.K (run g i'))) (he : PE X e (tE X.K (run g e'))) : PS X (.Assign [.Subscript o i p2] e pos) (tS X.K Xw (exec g (.setix o' i' e'))) := by
  refine (ps_asg he (pg_sub ho hi set_list (fun v => by cases i <;> first | rfl | cases hp)) (by cases e <;> rfl) (by cases e <;> rfl)).imp fun D σ H ⟨ι, st, loc, S, L, P⟩ => ?_
  rw [exec] at P
  obtain ⟨d, st1, e1, P⟩ := bnd_invS P
  obtain ⟨x, st2, e2, P⟩ := bnd_invS P
  obtain ⟨k, st3, e3, P⟩ := bnd_invS P
  obtain ⟨u, st4, e4, P⟩ := bnd_invS P
  refine tE_of S L e1 fun H1 ι1 v E1 S1 r1 => tE_of S1 (L.ext E1) e2 fun H2 ι2 vx E2 S2 r2 => tE_of S2 ((L.ext E1).ext E2) e3 fun H3 ι3 vk E3 S3 r3 => ?_
  have r2' := r2.ext E3
  have r1' := (r1.ext E2).ext E3
  unfold setitem at e4
  split at e4
  · rename_i n0 k0 z0
    split at e4
    · rename_i xs q
      split at e4
      · rename_i j hj
        cases e4
        cases r2' with
        | ref hn =>
          cases r3
          obtain ⟨vs, g1, g2⟩ := S3.ob _ _ q
          have rr := g2.set j r1'
          obtain ⟨E4, S4⟩ := S3.write q rr
          refine ⟨_, _, _, j, rfl, rfl, g1, by rw [← g2.length]; exact hj, ?_⟩
          have E5 := (E1.trans E2).trans E3
          have E4' : Ext H3 (upd H3 (ι3 n0) (.lst (vs.set j v))) ι3 ι3 st3.length (st3.set n0 (O.lst (xs.set j d))).length := by rw [List.length_set]; exact E4
          exact P _ ι3 σ (E5.trans E4') S4 (((L.ext E5)).ext E4')
      · cases e4
    · cases e4
  · cases e4
theorem s_ret {e : Expr} {e' : Ex} (he : PE X e (tE X.K (run g e'))) : PS X (.Return (some e) pos) (tS X.K Xw (exec g (.ret e'))) :=
  (ps_ret he).imp fun D σ H ⟨ι, st, loc, S, L, P⟩ => by
    rw [exec] at P
    obtain ⟨d, st1, e1, P⟩ := bnd_invS P
    exact tE_of S L e1 fun H1 ι1 v E1 S1 r1 => P H1 ι1 v E1 S1 r1
theorem s_ex {e : Expr} {e' : Ex} (hk : isComp e = false) (hm : ∃ n sc N, cE T n sc N e = some e') (he : PE X e (tE X.K (run g e'))) : PS X (.Expr e pos) (tS X.K Xw (exec g (.ex e'))) := by
  obtain ⟨n, sc', N', hm⟩ := hm
  have hs : swapsWith e none pos.line X.env = pure false := by
    cases n with
    | zero => cases hm
    | succ n => cases n <;> cases e <;> first | rfl | (simp [isComp] at hk; done) | (simp [cE, cT] at hm; done)
  refine (ps_expr he hs).imp fun D σ H ⟨ι, st, loc, S, L, P⟩ => ?_
  rw [exec] at P
  obtain ⟨d, st1, e1, P⟩ := bnd_invS P
  exact tE_of S L e1 fun H1 ι1 v E1 S1 r1 => P H1 ι1 σ E1 S1 (L.ext E1)
theorem s_app {o e : Expr} {o' e' : Ex} {m : Str} {ap cp : Pos} (hm : isAppend m = true) (hl : (ap.endLine == cp.line) = true) (hst : starEach [e] X.env = [(false, eval e X.env)]) (hb : attributeBase o m X.env (eval o X.env) = eval o X.env) (ho : PE X o (tE X.K (run g o'))) (he : PE X e (tE X.K (run g e'))) :
    PS X (.Expr (.Call (.Attribute o m ap) [e] [] cp) pos) (tS X.K Xw (exec g (.app o' e'))) := by
  have hm : m = "append" := by simpa [isAppend] using hm
  subst hm
  refine (ps_expr (pe_bm PySem.F.plainAttrs_list PySem.F.slot_list_append PySem.F.type_list_append mt_append ho (pa_cons he pa_nil hst) hb (by rw [hst]; rfl) hl hst rfl)).imp fun D σ H ⟨ι, st, loc, S, L, P⟩ => ?_
  rw [exec] at P
  obtain ⟨x, st1, e1, P⟩ := bnd_invS P
  obtain ⟨u0, st0, e0, P⟩ := bnd_invS P
  obtain ⟨d, st2, e2, P⟩ := bnd_invS P
  obtain ⟨u, st3, e3, P⟩ := bnd_invS P
  have sz : sizeLine = 16777216 := sizeLine_eq
  unfold append at e3
  split at e3
  · rename_i n z1 z0
    split at e3
    · rename_i xs q
      split at e3
      · rename_i hz
        cases e3
        simp only [lstOk] at e0
        split at e0
        · rename_i zs q0
          cases e0
          refine tE_of S L e1 fun H1 ι1 vx E1 S1 r1 => ?_
          cases r1 with
          | ref hn =>
            obtain ⟨ws, w1, _⟩ := S1.ob _ _ q0
            refine ⟨.inl ⟨rfl, ws, SqL.of w1⟩, tE_of S1 (L.ext E1) e2 fun H2 ι2 v E2 S2 r2 => ?_⟩
            obtain ⟨vs, g1, g2⟩ := S2.ob _ _ q
            have l := g2.length
            have rr := g2.append (.cons r2 .nil)
            obtain ⟨E4, S4⟩ := S2.write q rr
            rw [E2.ad n hn] at g1 E4 S4
            refine ⟨_, _, _, rfl, rfl, g1, by omega, ?_⟩
            have E5 := E1.trans E2
            have E4' : Ext H2 (upd H2 (ι1 n) (.lst (vs ++ [v]))) ι2 ι2 st2.length (st2.set n (O.lst (xs ++ [d]))).length := by rw [List.length_set]; exact E4
            exact P _ ι2 σ (E5.trans E4') S4 ((L.ext E5).ext E4')
        · cases e0
      · cases e3
    · cases e3
  · cases e3
theorem s_ext {o e : Expr} {o' e' : Ex} {m : Str} {ap cp : Pos} (hm : isExtend m = true) (hl : (ap.endLine == cp.line) = true) (hst : starEach [e] X.env = [(false, eval e X.env)]) (hb : attributeBase o m X.env (eval o X.env) = eval o X.env) (ho : PE X o (tE X.K (run g o'))) (he : PE X e (tE X.K (run g e'))) :
    PS X (.Expr (.Call (.Attribute o m ap) [e] [] cp) pos) (tS X.K Xw (exec g (.ext o' e'))) := by
  have hm : m = "extend" := by simpa [isExtend] using hm
  subst hm
  refine (ps_expr (pe_bm PySem.F.plainAttrs_list PySem.F.slot_list_extend PySem.F.type_list_extend mt_extend2 ho (pa_cons he pa_nil hst) hb (by rw [hst]; rfl) hl hst rfl)).imp fun D σ H ⟨ι, st, loc, S, L, P⟩ => ?_
  rw [exec] at P
  obtain ⟨x, st1, e1, P⟩ := bnd_invS P
  obtain ⟨u0, st0, e0, P⟩ := bnd_invS P
  obtain ⟨d, st2, e2, P⟩ := bnd_invS P
  obtain ⟨u, st3, e3, P⟩ := bnd_invS P
  have sz : sizeLine = 16777216 := sizeLine_eq
  cases x with
  | ref n =>
    simp only [lstOk] at e0
    split at e0
    · rename_i zs q0
      cases e0
      refine tE_of S L e1 fun H1 ι1 vx E1 S1 r1 => ?_
      cases r1 with
      | ref hn =>
        obtain ⟨ws, w1, _⟩ := S1.ob _ _ q0
        refine ⟨.inl ⟨rfl, ws, SqL.of w1⟩, tE_of S1 (L.ext E1) e2 fun H2 ι2 v E2 S2 r2 => ?_⟩
        have E5 := E1.trans E2
        unfold extend at e3
        split at e3
        · rename_i n1 m1 zz1
          cases zz1
          split at e3
          · rename_i xs ys q qm
            split at e3
            · rename_i hz
              cases e3
              cases r2 with
              | ref hm2 =>
                obtain ⟨vs, g1, g2⟩ := S2.ob _ _ q
                obtain ⟨us, k1, k2⟩ := S2.ob _ _ qm
                have l := g2.length
                have l2 := k2.length
                obtain ⟨E4, S4⟩ := S2.write q (g2.append k2)
                rw [E2.ad n hn] at g1 E4 S4
                refine ⟨_, _, _, _, rfl, rfl, g1, .inl k1, by omega, ?_⟩
                have E4' : Ext H2 (upd H2 (ι1 n) (.lst (vs ++ us))) ι2 ι2 st2.length (st2.set n (O.lst (xs ++ ys))).length := by rw [List.length_set]; exact E4
                exact P _ ι2 σ (E5.trans E4') S4 ((L.ext E5).ext E4')
            · cases e3
          · cases e3
        · cases e3
    · cases e0
  | _ => cases e0
theorem s_clr {o : Expr} {o' : Ex} {m : Str} {ap cp : Pos} (hm : isClear m = true) (hl : (ap.endLine == cp.line) = true) (hb : attributeBase o m X.env (eval o X.env) = eval o X.env) (ho : PE X o (tE X.K (run g o'))) :
    PS X (.Expr (.Call (.Attribute o m ap) [] [] cp) pos) (tS X.K Xw (exec g (.clr o'))) := by
  have hm : m = "clear" := by simpa [isClear] using hm
  subst hm
  refine (ps_expr (pe_bm0 PySem.F.plainAttrs_list PySem.F.slot_list_clear PySem.F.type_list_clear mt_clear ho hb hl)).imp fun D σ H ⟨ι, st, loc, S, L, P⟩ => ?_
  rw [exec] at P
  obtain ⟨x, st1, e1, P⟩ := bnd_invS P
  obtain ⟨u, st3, e3, P⟩ := bnd_invS P
  refine tE_of S L e1 fun H1 ι1 vx E1 S1 r1 => ?_
  unfold clearD at e3
  split at e3
  · rename_i n
    split at e3
    · rename_i xs q
      cases e3
      cases r1 with
      | ref hn =>
        obtain ⟨vs, g1, g2⟩ := S1.ob _ _ q
        obtain ⟨E4, S4⟩ := S1.write q .nil
        have E4' : Ext H1 (upd H1 (ι1 n) (.lst [])) ι1 ι1 st1.length (st1.set n (O.lst [])).length := by rw [List.length_set]; exact E4
        exact ⟨.inl ⟨rfl, vs, SqL.of g1⟩, _, vs, rfl, rfl, g1, P _ ι1 σ (E1.trans E4') S4 ((L.ext E1).ext E4')⟩
    · cases e3
  · cases e3
theorem s_if {c : Expr} {a b : List Stmt} {c' : Ex} {a' b' : List S} (hc : PT X c (tT X.K (run g c'))) (ha : PSs X a (tS X.K Xw (execs g a'))) (hb : PSs X b (tS X.K Xw (execs g b'))) : PS X (.If c a b pos) (tS X.K Xw (exec g (.ite c' a' b'))) :=
  (ps_if hc ha hb).imp fun D σ H ⟨ι, st, loc, S, L, P⟩ => by
    rw [exec] at P
    obtain ⟨x, st1, e1, P⟩ := bnd_invS P
    obtain ⟨i, st2, e2, P⟩ := bnd_invS P
    obtain ⟨e3, rfl⟩ := ofO_inv e2
    have := bool?_inv e3
    subst this
    refine tT_of S L e1 fun H1 ι1 E1 S1 => ?_
    cases i with
    | true => rw [if_pos rfl]; exact ⟨ι1, st2, loc, S1, L.ext E1, P.mono E1⟩
    | false => rw [if_neg Bool.false_ne_true]; exact ⟨ι1, st2, loc, S1, L.ext E1, P.mono E1⟩
theorem s_whil {c : Expr} {body : List Stmt} {c' : Ex} {b' : List S} (hp : PassesOwn (model X.prog X.w) X.A X.env X.xe) (hc : PT X c (tT X.K (run g c'))) (hb : PSs X body (tS X.K Xw (execs g b'))) : PS X (.While c body [] pos) (tS X.K Xw (exec g (.whil c' b'))) := by
  refine (ps_while hp hc hb).imp fun D σ H ⟨ι, st, loc, S, L, P⟩ => ?_
  rw [exec] at P
  refine ⟨fun m σ2 H2 => ∃ ι2 st2 loc2, Ext H H2 ι ι2 st.length st2.length ∧ Sim X.K H2 ι2 st2 ∧ LRel X.K H2 ι2 st2.length loc2 σ2 ∧ PostS X.K Xw H ι st (whileN (run g c') (execs g b') m loc2 st2) D, ⟨fuel, ι, st, loc, Ext.refl _ _ _, S, L, P⟩, ?_⟩
  rintro m σ2 H2 ⟨ι2, st2, loc2, E2, S2, L2', P2⟩
  cases m with
  | zero => exact P2.elim
  | succ m =>
    rw [whileN] at P2
    obtain ⟨x, st3, e3, P3⟩ := bnd_invS P2
    obtain ⟨b, st4, e4, P4⟩ := bnd_invS P3
    obtain ⟨e5, rfl⟩ := ofO_inv e4
    have := bool?_inv e5
    subst this
    refine tT_of S2 L2' e3 fun H3 ι3 E3 S3 => ?_
    cases b with
    | false =>
      rw [if_neg Bool.false_ne_true]
      exact P4 H3 ι3 σ2 (E2.trans E3) S3 (L2'.ext E3)
    | true =>
      rw [if_pos rfl]
      refine ⟨fun σ4 H4 => ∃ ι4 st5 loc5, Ext H H4 ι ι4 st.length st5.length ∧ Sim X.K H4 ι4 st5 ∧ LRel X.K H4 ι4 st5.length loc5 σ4 ∧ PostS X.K Xw H ι st (whileN (run g c') (execs g b') m loc5 st5) D, fun σ' H' q => ⟨m, Nat.lt_succ_self _, q⟩, ?_⟩
      rw [if_pos rfl] at P4
      obtain ⟨r, st6, e6, P6⟩ := bnd_invS P4
      refine ⟨ι3, st4, loc2, S3, L2'.ext E3, ?_⟩
      rw [e6]
      cases r with
      | nx loc3 => exact fun H4 ι4 σ4 E4 S4 L4 => ⟨ι4, st6, loc3, (E2.trans E3).trans E4, S4, L4, P6⟩
      | rt d => exact fun H4 ι4 w E4 S4 r4 => P6 H4 ι4 w ((E2.trans E3).trans E4) S4 r4
      | ex n l => exact fun H4 ι4 σ4 E4 S4 L4 => P6 H4 ι4 σ4 ((E2.trans E3).trans E4) S4 L4
noncomputable def gNames : List Nat → TGs
  | [] => gNil
  | i :: is => gCons (gName i) (gNames is)
theorem names_pg (C : Ctx T g X sc N) (hfn : ∀ y, X.fn y = true) : ∀ {ts : List Expr} {is : List Nat}, tixs sc N ts = some is → PGs X ts (gNames is) ∧ (assignEach ts X.env).length = is.length ∧ (assignEach ts X.env).findIdx? (·.1) = none
  | [], is, h => by cases h; exact ⟨pgs_nil, rfl, rfl⟩
  | t :: r, is, h => by
    unfold tixs at h
    split at h
    · rename_i hz; cases hz
    · rename_i x px r' he
      cases he
      split at h
      · rename_i hl
        split at h
        · rename_i i is' hi hr
          cases h
          obtain ⟨h1, h2, h3⟩ := names_pg C hfn hr
          refine ⟨pgs_cons (pg_name (i := i) (by rw [C.n]; exact C.nd) (by rw [C.n]; exact ixOf_get hi) (loc_of C hl) (.inl (hfn x))) h1 rfl, ?_, ?_⟩
          · show (assignEach r X.env).length + 1 = is'.length + 1
            rw [h2]
          · show (((false, assign (.Name x px) X.env) :: assignEach r X.env).findIdx? (·.1)) = none
            rw [List.findIdx?_cons, h3]; rfl
        · cases h
      · cases h
    · cases h
theorem names_rd {K : PySem.W.Frag} {H : Hp} {ι : Nat → Addr} {m : Nat} {Q : L2.St → Hp → Prop} : ∀ {is : List Nat} {ds : List D} {vs : List V} {loc : Loc} {σ : L2.St}, VRels K H ι m ds vs → ds.length = is.length → LRel K H ι m loc σ → (∀ σ', LRel K H ι m (setL is ds loc) σ' → Q σ' H) → gNames is vs σ H Q
  | [], _, _, _, _, .nil, _, L, k => ⟨rfl, k _ L⟩
  | i :: is, _, _, _, _, .cons (v := v) (vs := vs) h t, hl, L, k => ⟨v, vs, rfl, names_rd t (by simpa using hl) (L.set i h) k⟩
  | [], _, _, _, _, .cons _ _, hl, _, _ => by simp at hl
  | _ :: _, _, _, _, _, .nil, hl, _, _ => by simp at hl
theorem for_ok {J : It} {s : Src} {H : Hp} {ι : Nat → Addr} {st st0 : Sto} {H0 : Hp} {ι0 : Nat → Addr} {loc : Loc} {σ : L2.St} {D : Ends} {i : Nat} {b' : List S}
    (F : Corr X.K J s H ι st.length) (E0 : Ext H0 H ι0 ι st0.length st.length) (Sm : Sim X.K H ι st) (L : LRel X.K H ι st.length loc σ) (P : PostS X.K Xw H0 ι0 st0 (forS (fun x loc' => execs g b' (loc'.set i (some x))) s loc st) D) :
    ∃ W : Nat → Nat → L2.St → Hp → Prop, (∃ m, W 0 m σ H) ∧ ∀ k m σ H, W k m σ H →
      (J.stop k H ∧ D.nx σ H) ∨ (J.go k H ∧ ∃ Nn : L2.St → Hp → Prop, (∀ σ' H', Nn σ' H' → ∃ m', m' < m ∧ W (k + 1) m' σ' H') ∧ ∀ x H', J.yld k H x H' → gName i x σ H' fun σ2 H2 => tS X.K Xw (execs g b') { D with nx := Nn, ct := Nn, bk := D.nx } σ2 H2) := by
  refine ⟨fun k m σ2 H2 => ∃ ι2 st2 loc2, Ext H H2 ι ι2 st.length st2.length ∧ Sim X.K H2 ι2 st2 ∧ LRel X.K H2 ι2 st2.length loc2 σ2 ∧ PostS X.K Xw H0 ι0 st0 (forN (fun x loc' => execs g b' (loc'.set i (some x))) s m k loc2 st2) D, ⟨lenS s st + 1, ι, st, loc, Ext.refl _ _ _, Sm, L, P⟩, ?_⟩
  rintro k m σ2 H2 ⟨ι2, st2, loc2, E2, S2, L2', P2⟩
  obtain ⟨c1, c2⟩ := F H2 ι2 st2 k E2 S2
  cases m with
  | zero => exact P2.elim
  | succ m =>
    simp only [forN] at P2
    cases en : nxt s k st2 with
    | none => rw [en] at P2; exact P2.elim
    | some ox =>
      rw [en] at P2
      cases ox with
      | none => exact .inl ⟨c1 en, P2 H2 ι2 σ2 (E0.trans E2) S2 L2'⟩
      | some x =>
        obtain ⟨hgo, hyl⟩ := c2 x en
        refine .inr ⟨hgo, fun σ3 H3 => ∃ ι3 st3 loc3, Ext H H3 ι ι3 st.length st3.length ∧ Sim X.K H3 ι3 st3 ∧ LRel X.K H3 ι3 st3.length loc3 σ3 ∧ PostS X.K Xw H0 ι0 st0 (forN (fun x loc' => execs g b' (loc'.set i (some x))) s m (k + 1) loc3 st3) D, fun σ' H' q => ⟨m, Nat.lt_succ_self _, q⟩, fun v H' y => ?_⟩
        obtain ⟨rfl, rv⟩ := hyl v H' y
        obtain ⟨r, st3, e3, P3⟩ := bnd_invS P2
        refine ⟨ι2, st2, loc2.set i (some x), S2, L2'.set i rv, ?_⟩
        rw [e3]
        cases r with
        | nx loc3 => exact fun H3 ι3 σ3 E3 S3 L3 => ⟨ι3, st3, loc3, E2.trans E3, S3, L3, P3⟩
        | rt d => exact fun H3 ι3 w E3 S3 r3 => P3 H3 ι3 w ((E0.trans E2).trans E3) S3 r3
        | ex n l => exact fun H3 ι3 σ3 E3 S3 L3 => P3 H3 ι3 σ3 ((E0.trans E2).trans E3) S3 L3
theorem for_bad {f : D → Loc → M Fl} {loc : Loc} (n : Nat) (st : Sto) (h : ∀ xs, st[n]? ≠ some (.lst xs)) : forS f (.at n) loc st = .bad := by
  unfold forS
  simp only [forN, nxt_bad h]
theorem for_okU {J : It} {s : Src} {H : Hp} {ι : Nat → Addr} {st st0 : Sto} {H0 : Hp} {ι0 : Nat → Addr} {loc : Loc} {σ : L2.St} {D : Ends} {is : List Nat} {b' : List S}
    (F : Corr X.K J s H ι st.length) (E0 : Ext H0 H ι0 ι st0.length st.length) (Sm : Sim X.K H ι st) (L : LRel X.K H ι st.length loc σ) (P : PostS X.K Xw H0 ι0 st0 (forS (fun x loc' => bnd (items? is.length x) fun ds => execs g b' (setL is ds loc')) s loc st) D) :
    ∃ W : Nat → Nat → L2.St → Hp → Prop, (∃ m, W 0 m σ H) ∧ ∀ k m σ H, W k m σ H →
      (J.stop k H ∧ D.nx σ H) ∨ (J.go k H ∧ ∃ Nn : L2.St → Hp → Prop, (∀ σ' H', Nn σ' H' → ∃ m', m' < m ∧ W (k + 1) m' σ' H') ∧ ∀ x H', J.yld k H x H' → gSeq X.K is.length (gNames is) x σ H' fun σ2 H2 => tS X.K Xw (execs g b') { D with nx := Nn, ct := Nn, bk := D.nx } σ2 H2) := by
  refine ⟨fun k m σ2 H2 => ∃ ι2 st2 loc2, Ext H H2 ι ι2 st.length st2.length ∧ Sim X.K H2 ι2 st2 ∧ LRel X.K H2 ι2 st2.length loc2 σ2 ∧ PostS X.K Xw H0 ι0 st0 (forN (fun x loc' => bnd (items? is.length x) fun ds => execs g b' (setL is ds loc')) s m k loc2 st2) D, ⟨lenS s st + 1, ι, st, loc, Ext.refl _ _ _, Sm, L, P⟩, ?_⟩
  rintro k m σ2 H2 ⟨ι2, st2, loc2, E2, S2, L2', P2⟩
  obtain ⟨c1, c2⟩ := F H2 ι2 st2 k E2 S2
  cases m with
  | zero => exact P2.elim
  | succ m =>
    simp only [forN] at P2
    cases en : nxt s k st2 with
    | none => rw [en] at P2; exact P2.elim
    | some ox =>
      rw [en] at P2
      cases ox with
      | none => exact .inl ⟨c1 en, P2 H2 ι2 σ2 (E0.trans E2) S2 L2'⟩
      | some x =>
        obtain ⟨hgo, hyl⟩ := c2 x en
        refine .inr ⟨hgo, fun σ3 H3 => ∃ ι3 st3 loc3, Ext H H3 ι ι3 st.length st3.length ∧ Sim X.K H3 ι3 st3 ∧ LRel X.K H3 ι3 st3.length loc3 σ3 ∧ PostS X.K Xw H0 ι0 st0 (forN (fun x loc' => bnd (items? is.length x) fun ds => execs g b' (setL is ds loc')) s m (k + 1) loc3 st3) D, fun σ' H' q => ⟨m, Nat.lt_succ_self _, q⟩, fun v H' y => ?_⟩
        obtain ⟨rfl, rv⟩ := hyl v H' y
        obtain ⟨r, st3, e3, P3⟩ := bnd_invS P2
        unfold items? at e3
        cases es : seqOf st2 x with
        | none => simp only [bnd, es] at e3; cases e3
        | some xs =>
          by_cases hl : xs.length = is.length
          · have e4 : execs g b' (setL is xs loc2) st2 = .ok r st3 := by
              simp only [bnd, es, if_pos hl] at e3
              exact e3
            obtain ⟨a, vs, rfl, hq, rw'⟩ := rv.seq S2 es
            refine ⟨a, vs, rfl, hq, by rw [← rw'.length]; exact hl, names_rd rw' hl L2' fun σ' L' => ⟨ι2, st2, setL is xs loc2, S2, L', ?_⟩⟩
            rw [e4]
            cases r with
            | nx loc3 => exact fun H3 ι3 σ3 E3 S3 L3 => ⟨ι3, st3, loc3, E2.trans E3, S3, L3, P3⟩
            | rt d => exact fun H3 ι3 w E3 S3 r3 => P3 H3 ι3 w ((E0.trans E2).trans E3) S3 r3
            | ex n l => exact fun H3 ι3 σ3 E3 S3 L3 => P3 H3 ι3 σ3 ((E0.trans E2).trans E3) S3 L3
          · simp only [bnd, es, if_neg hl] at e3
            cases e3
theorem s_forU (hp : PassesOwn (model X.prog X.w) X.A X.env X.xe) (C : Ctx T g X sc N) (hcm : T.calm = true) {ts : List Expr} {is : List Nat} {tk : Nat} {it : Expr} {body : List Stmt} {a' : Ex} {b' : List S} (hfn : ∀ y, X.fn y = true) (ht : tixs sc N ts = some is) (ha : PE X it (tE X.K (run g a'))) (hf : ∀ v, foldedSetIterable it X.env v = pure v) (hb : PSs X body (tS X.K Xw (execs g b'))) :
    PS X (.For (.Tuple ts tk p2) it body [] pos) (tS X.K Xw (exec g (.forU is a' b'))) := by
  obtain ⟨h1, h2, h3⟩ := names_pg C hfn ht
  refine (ps_for hp (C.calm hcm) (pi_seq ha) (pg_seq (C.calm hcm) h1 h2 h3) hb hf).imp fun D σ H ⟨ι, st, loc, S, L, P⟩ => ?_
  rw [exec] at P
  obtain ⟨d, st1, e1, P⟩ := bnd_invS P
  obtain ⟨s, st2, e2, P⟩ := bnd_invS P
  obtain ⟨e3, rfl⟩ := ofO_inv e2
  refine tE_of S L e1 fun H1 ι1 v E1 S1 r1 => ?_
  cases r1 with
  | tup h r => cases e3; exact ⟨_, rfl, .inr ⟨⟨_, h.t⟩, for_okU (Corr.tup h.t r) E1 S1 (L.ext E1) P⟩⟩
  | fl h r => cases e3; exact ⟨_, rfl, .inl ⟨⟨_, h.sql⟩, for_okU (Corr.fl h r) E1 S1 (L.ext E1) P⟩⟩
  | @ref n hn =>
    cases e3
    cases q : st2[n]? with
    | none =>
      rw [for_bad n st2 (fun xs z => by rw [q] at z; cases z)] at P
      exact P.elim
    | some o =>
      cases o with
      | dtt _ _ =>
        rw [for_bad n st2 (fun xs z => by rw [q] at z; cases z)] at P
        exact P.elim
      | lst xs =>
        obtain ⟨vs, h1, _⟩ := S1.ob n _ q
        exact ⟨_, rfl, .inl ⟨⟨vs, SqL.of h1⟩, for_okU (Corr.ref hn) E1 S1 (L.ext E1) P⟩⟩
  | _ => cases e3
theorem s_for (hp : PassesOwn (model X.prog X.w) X.A X.env X.xe) (C : Ctx T g X sc N) (hcm : T.calm = true) {x : Str} {it : Expr} {body : List Stmt} {a' : Ex} {b' : List S} {i : Nat} (hx : isLocal sc x = true) (hfn : ∀ y, X.fn y = true) (hi : ixOf N x = some i) (ha : PE X it (tE X.K (run g a'))) (hf : ∀ v, foldedSetIterable it X.env v = pure v) (hb : PSs X body (tS X.K Xw (execs g b'))) :
    PS X (.For (.Name x p2) it body [] pos) (tS X.K Xw (exec g (.for_ i false a' b'))) := by
  refine (ps_for hp (C.calm hcm) (pi_seq ha) (pg_name (i := i) (by rw [C.n]; exact C.nd) (by rw [C.n]; exact ixOf_get hi) (loc_of C hx) (.inl (hfn x))) hb hf).imp fun D σ H ⟨ι, st, loc, S, L, P⟩ => ?_
  rw [exec] at P
  obtain ⟨d, st1, e1, P⟩ := bnd_invS P
  obtain ⟨s, st2, e2, P⟩ := bnd_invS P
  obtain ⟨e3, rfl⟩ := ofO_inv e2
  refine tE_of S L e1 fun H1 ι1 v E1 S1 r1 => ?_
  cases r1 with
  | tup h r => cases e3; exact ⟨_, rfl, .inr ⟨⟨_, h.t⟩, for_ok (Corr.tup h.t r) E1 S1 (L.ext E1) P⟩⟩
  | fl h r => cases e3; exact ⟨_, rfl, .inl ⟨⟨_, h.sql⟩, for_ok (Corr.fl h r) E1 S1 (L.ext E1) P⟩⟩
  | @ref n hn =>
    cases e3
    cases q : st2[n]? with
    | none =>
      rw [for_bad n st2 (fun xs z => by rw [q] at z; cases z)] at P
      exact P.elim
    | some o =>
      cases o with
      | dtt _ _ =>
        rw [for_bad n st2 (fun xs z => by rw [q] at z; cases z)] at P
        exact P.elim
      | lst xs =>
        obtain ⟨vs, h1, _⟩ := S1.ob n _ q
        exact ⟨_, rfl, .inl ⟨⟨vs, SqL.of h1⟩, for_ok (Corr.ref hn) E1 S1 (L.ext E1) P⟩⟩
  | _ => cases e3
theorem s_forR (hp : PassesOwn (model X.prog X.w) X.A X.env X.xe) (C : Ctx T g X sc N) (hcm : T.calm = true) {x : Str} {a : Expr} {body : List Stmt} {a' : Ex} {b' : List S} {i : Nat} (hx : isLocal sc x = true) (hfn : ∀ y, X.fn y = true) (hi : ixOf N x = some i) (hg : isGlob sc "range" = true) (hst : starEach [a] X.env = [(false, eval a X.env)]) (ha : PE X a (tE X.K (run g a'))) (hb : PSs X body (tS X.K Xw (execs g b'))) {p4 : Pos} :
    PS X (.For (.Name x p2) (.Call (.Name "range" p3) [a] [] p4) body [] pos) (tS X.K Xw (exec g (.for_ i true a' b'))) := by
  have hgl : Gl X "range" := by
    show X.env.scope.names.lookup _ = some .globalImplicit
    rw [C.sc]
    simpa [isGlob] using hg
  refine (ps_for hp (C.calm hcm) (pi_range1 hgl (C.blt _ (by decide +kernel)) (pa_cons ha pa_nil hst) hst) (pg_name (i := i) (by rw [C.n]; exact C.nd) (by rw [C.n]; exact ixOf_get hi) (loc_of C hx) (.inl (hfn x))) hb).imp fun D σ H ⟨ι, st, loc, S, L, P⟩ => ?_
  rw [exec] at P
  obtain ⟨d, st1, e1, P⟩ := bnd_invS P
  obtain ⟨s, st2, e2, P⟩ := bnd_invS P
  obtain ⟨e3, rfl⟩ := ofO_inv e2
  refine tE_of S L e1 fun H1 ι1 v E1 S1 r1 => ?_
  cases r1 with
  | int j =>
    simp only [source] at e3
    split at e3
    · rename_i hj
      cases e3
      exact ⟨j, rfl, by omega, by omega, for_ok Corr.rng E1 S1 (L.ext E1) P⟩
    · cases e3
  | _ => cases e3
theorem set_inv {x k d : D} {st st1 : Sto} {u : Unit} (e : dsetD x k d st = .ok u st1) : ∃ n kvs k', x = .ref n ∧ st[n]? = some (.dtt false kvs) ∧ key? k = some k' ∧ kvs.length < 1000000 ∧ st1 = st.set n (.dtt false (Cb.put kvs k' d)) := by
  simp only [dsetD, bnd] at e
  cases e1 : dtt? x st with
  | bad => rw [e1] at e; cases e
  | ok q st2 =>
    rw [e1] at e
    obtain ⟨h1, h2, h3⟩ := dtt_inv e1
    simp only [ofO] at e
    cases e2 : key? k with
    | none => rw [e2] at e; cases e
    | some k' =>
      rw [e2] at e
      simp only at e
      split at e
      · cases e
      · rename_i hc
        cases e
        simp only [Bool.or_eq_true, decide_eq_true_eq, not_or, Bool.not_eq_true] at hc
        rw [hc.1] at h3
        exact ⟨q.1, q.2.2, k', h2, h3, rfl, by omega, by rw [h1]⟩
theorem put_rd {x k d : D} {st1 st : Sto} {u : Unit} {H : Hp} {ι : Nat → Addr} {vx vk v : V} (S : Sim X.K H ι st) (rx : VRel X.K H ι st.length x vx) (rk : VRel X.K H ι st.length k vk) (rd : VRel X.K H ι st.length d v) (e : dsetD x k d st = .ok u st1) :
    ∃ a H', vx = .ref a ∧ DPut H a vk v H' ∧ Ext H H' ι ι st.length st1.length ∧ Sim X.K H' ι st1 := by
  obtain ⟨n, kvs, k', rfl, h1, h2, h3, rfl⟩ := set_inv e
  obtain ⟨vs, _, g2, g3⟩ := dtt_at S h1
  have g3 := g3 rfl
  obtain ⟨b, rfl, hb⟩ := key_at h2 rk
  cases rx
  have sz : sizeLine = 16777216 := sizeLine_eq
  obtain ⟨E, S'⟩ := S.writeT (fz := false) h1 (ho := .dT (putK vs k' v)) (vs := putK vs k' v) rfl (g2.put k' rd)
  exact ⟨_, _, rfl, DPut.t g3 hb (by rw [← g2.length]; omega), by rw [List.length_set]; exact E, S'⟩
theorem s_dset {o i e : Expr} {o' i' e' : Ex} (hu : X.A.units + 100 < cLine) (hv : plainV e = true) (ho : PE X o (tE X.K (run g o'))) (hi : PE X i (tE X.K (run g i'))) (he : PE X e (tE X.K (run g e'))) : PS X (.Assign [.Subscript o i p2] e pos) (tS X.K Xw (exec g (.dset o' i' e'))) := by
  refine (ps_dput (by omega) ho hi he (by cases e <;> first | rfl | cases hv)).imp fun D σ H ⟨ι, st, loc, S, L, P⟩ => ?_
  rw [exec] at P
  obtain ⟨d, st1, e1, P⟩ := bnd_invS P
  obtain ⟨x, st2, e2, P⟩ := bnd_invS P
  obtain ⟨k, st3, e3, P⟩ := bnd_invS P
  obtain ⟨u, st4, e4, P⟩ := bnd_invS P
  refine tE_of S L e1 fun H1 ι1 v E1 S1 r1 => tE_of S1 (L.ext E1) e2 fun H2 ι2 vx E2 S2 r2 => tE_of S2 ((L.ext E1).ext E2) e3 fun H3 ι3 vk E3 S3 r3 => ?_
  obtain ⟨a, H4, ea, hp, E4, S4⟩ := put_rd S3 (r2.ext E3) r3 ((r1.ext E2).ext E3) e4
  have E5 := ((E1.trans E2).trans E3).trans E4
  exact ⟨a, H4, ea, hp, P _ ι3 σ E5 S4 (L.ext E5)⟩
noncomputable def augOp (neg : Bool) : Operator := if neg then .Sub else .Add
theorem augNeg_inv {op : Operator} {neg : Bool} (h : augNeg op = some neg) : op = augOp neg := by
  cases op <;> cases h <;> rfl
noncomputable def rAug (neg : Bool) : V → V → Hp → VK → Prop := fun x y H Q => ∃ i j, x = .int i ∧ y = .int j ∧ Q (.int (if neg then i - j else i + j)) H
theorem in_aug (neg : Bool) : InOp X (augOp neg) (rAug neg) := by
  cases neg with
  | true => exact in_sub
  | false => exact in_add
theorem s_daug {o i e : Expr} {o' i' e' : Ex} {neg : Bool} (hu : X.A.units + 100 < cLine) (hp : plainSub i = true) (ho : PE X o (tE X.K (run g o'))) (hi : PE X i (tE X.K (run g i'))) (he : PE X e (tE X.K (run g e'))) : PS X (.AugAssign (.Subscript o i p2) (augOp neg) e pos) (tS X.K Xw (exec g (.daug neg o' i' e'))) := by
  refine (ps_daug (by omega) ho hi he (in_aug neg) (fun ov iv new => by cases i <;> first | rfl | cases hp)).imp fun D σ H ⟨ι, st, loc, S, L, P⟩ => ?_
  rw [exec] at P
  obtain ⟨x, st1, e1, P⟩ := bnd_invS P
  obtain ⟨k, st2, e2, P⟩ := bnd_invS P
  obtain ⟨y, st3, e3, P⟩ := bnd_invS P
  obtain ⟨y', st4, e4, P⟩ := bnd_invS P
  obtain ⟨z, st5, e5, P⟩ := bnd_invS P
  obtain ⟨z', st6, e6, P⟩ := bnd_invS P
  obtain ⟨u, st7, e7, P⟩ := bnd_invS P
  obtain ⟨f4, hs4⟩ := ofO_inv e4
  obtain ⟨f6, hs6⟩ := ofO_inv e6
  rw [hs6] at e7
  refine tE_of S L e1 fun H1 ι1 vx E1 S1 r1 => tE_of S1 (L.ext E1) e2 fun H2 ι2 vk E2 S2 r2 => ?_
  have rx := r1.ext E2
  simp only [dixD, bnd] at e3
  cases d1 : dtt? x st2 with
  | bad => rw [d1] at e3; cases e3
  | ok q sq =>
    rw [d1] at e3
    obtain ⟨q1, q2, q3⟩ := dtt_inv d1
    simp only [ofO] at e3
    cases d2 : key? k with
    | none => rw [d2] at e3; cases e3
    | some k' =>
      rw [d2] at e3
      simp only at e3
      cases d3 : Cb.look q.2.2 k' with
      | none => rw [d3] at e3; cases e3
      | some yy =>
        rw [d3] at e3
        cases e3
        obtain ⟨vs, g1, g2, _⟩ := dtt_at S2 q3
        obtain ⟨b, rfl, hb⟩ := key_at d2 r2
        obtain ⟨w, gw, rw'⟩ := g2.some d3
        rw [q2] at rx
        cases rx
        refine ⟨_, w, rfl, .inr ⟨vs, k', b, g1, rfl, hb, gw.symm⟩, ?_⟩
        rw [hs4, q1] at e5
        refine tE_of S2 ((L.ext E1).ext E2) e5 fun H3 ι3 v3 E3 S3 r3 => ?_
        have hy : y = .int y' := by cases y <;> cases f4 <;> rfl
        have hz : z = .int z' := by cases z <;> cases f6 <;> rfl
        rw [hy] at rw'
        rw [hz] at r3
        cases rw'
        cases r3
        refine ⟨y', z', rfl, rfl, ?_⟩
        obtain ⟨a, H4, ea, hpt, E4, S4⟩ := put_rd S3 ((r1.ext E2).ext E3) (r2.ext E3) (.int _) e7
        have E5 := ((E1.trans E2).trans E3).trans E4
        injection ea with ea
        rw [ea]
        exact ⟨H4, hpt, P _ ι3 σ E5 S4 (L.ext E5)⟩
theorem postS_thaw {H H1 : Hp} {ι ι1 : Nat → Addr} {st st1 stf : Sto} {n : Nat} {o : Obj} {vs : List (List Key × V)} {D : Ends} {m : M Fl} (hn : n < st1.length) (hl : stf.length = st1.length) (ha : H1 (ι1 n) = some (.dT vs)) (nf : ∀ o' w, X.H₀ (ι1 n) ≠ some (.frz o' w))
    (E1 : Ext H H1 ι ι1 st.length st1.length) (P : PostS X.K Xw H ι st (bnd m (fun r => nxOnly n r) stf) D) : PostS X.K Xw (upd H1 (ι1 n) (.frz o (.dT vs))) ι1 stf (m stf) { D with nx := fun σ' H' => Thw X (D.nx σ') H' } := by
  obtain ⟨f, st3, e3, P⟩ := bnd_invS P
  rw [e3]
  cases f with
  | nx loc =>
    obtain ⟨u, st4, e4, P⟩ := bnd_invS (show PostS X.K Xw H ι st (bnd (frzD n false) (fun _ => ret (.nx loc)) st3) D from P)
    intro H3 ι3 σ3 E3 S3 L3
    rw [hl] at E3
    obtain ⟨h3, W, E, S4⟩ := thaw_at hn ha E3 S3 e4
    exact .inr ⟨_, _, _, h3, nf, P _ ι3 σ3 (E1.trans E) S4 (LRel.extW L3 W)⟩
  | rt d => exact P.elim
  | ex k l => exact P.elim
theorem s_forK (hp : PassesOwn (model X.prog X.w) X.A X.env X.xe) (C : Ctx T g X sc N) (hcm : T.calm = true) {x : Str} {it : Expr} {body : List Stmt} {a' : Ex} {b' : List S} {i : Nat} (hx : isLocal sc x = true) (hfn : ∀ y, X.fn y = true) (hi : ixOf N x = some i) (ha : PE X it (tE X.K (run g a'))) (hf : ∀ v, foldedSetIterable it X.env v = pure v) (hb : PSs X body (tS X.K Xw (execs g b'))) :
    PS X (.For (.Name x p2) it body [] pos) (tS X.K Xw (exec g (.forK i a' b'))) := by
  refine ((ps_for hp (C.calm hcm) (pi_dkeys ha) (pg_name (i := i) (by rw [C.n]; exact C.nd) (by rw [C.n]; exact ixOf_get hi) (loc_of C hx) (.inl (hfn x))) hb hf).thaw).imp fun D σ H ⟨ι, st, loc, S, L, P⟩ => ?_
  rw [exec] at P
  obtain ⟨d, st1, e1, P⟩ := bnd_invS P
  unfold walkF at P
  obtain ⟨q, st2, e2, P⟩ := bnd_invS P
  obtain ⟨u, st3, e3, P⟩ := bnd_invS P
  refine tE_of S L e1 fun H1 ι1 v E1 S1 r1 => ?_
  obtain ⟨hst, hd, f3⟩ := dtt_inv e2
  rw [hst] at e3
  rw [hd] at r1
  obtain ⟨vs, kvs, ha, hr, hk, hn, hl, hE⟩ := freeze_at S1 e3
  rw [f3] at hk
  have hkk : q.2.2 = kvs := by injection hk with hk; injection hk
  rw [hkk] at P
  cases r1
  refine ⟨_, vs, rfl, ha, fun o nf => ?_⟩
  obtain ⟨E2, S2⟩ := hE o
  have F : Corr X.K (Itk o (ι1 q.1) vs) (.its (kvs.map fun kv => keyD kv.1)) (upd H1 (ι1 q.1) (.frz o (.dT vs))) ι1 st3.length := Corr.dk upd_same (by rw [hl]; exact hr.extW (by rw [hl] at E2; exact E2.toExt0.w))
  exact for_ok F (Ext.refl _ _ _) S2 ((L.ext E1).ext E2) (postS_thaw hn hl ha nf E1 P)
theorem s_forV (hp : PassesOwn (model X.prog X.w) X.A X.env X.xe) (C : Ctx T g X sc N) (hcm : T.calm = true) {x : Str} {d : Expr} {body : List Stmt} {a' : Ex} {b' : List S} {i : Nat} {ap cp : Pos} (hx : isLocal sc x = true) (hfn : ∀ y, X.fn y = true) (hi : ixOf N x = some i) (hline : (ap.endLine == cp.line) = true) (hbase : attributeBase d "values" X.env (eval d X.env) = eval d X.env) (ha : PE X d (tE X.K (run g a'))) (hb : PSs X body (tS X.K Xw (execs g b'))) :
    PS X (.For (.Name x p2) (.Call (.Attribute d "values" ap) [] [] cp) body [] pos) (tS X.K Xw (exec g (.forV i a' b'))) := by
  refine ((ps_for hp (C.calm hcm) (pi_dvals ha hbase hline) (pg_name (i := i) (by rw [C.n]; exact C.nd) (by rw [C.n]; exact ixOf_get hi) (loc_of C hx) (.inl (hfn x))) hb (fun _ => rfl)).thaw).imp fun D σ H ⟨ι, st, loc, S, L, P⟩ => ?_
  rw [exec] at P
  obtain ⟨d, st1, e1, P⟩ := bnd_invS P
  unfold walkF at P
  obtain ⟨q, st2, e2, P⟩ := bnd_invS P
  obtain ⟨u, st3, e3, P⟩ := bnd_invS P
  refine tE_of S L e1 fun H1 ι1 v E1 S1 r1 => ?_
  obtain ⟨hst, hd, f3⟩ := dtt_inv e2
  rw [hst] at e3
  rw [hd] at r1
  obtain ⟨vs, kvs, ha, hr, hk, hn, hl, hE⟩ := freeze_at S1 e3
  rw [f3] at hk
  have hkk : q.2.2 = kvs := by injection hk with hk; injection hk
  rw [hkk] at P
  cases r1
  refine ⟨_, vs, rfl, ha, fun o nf => ?_⟩
  obtain ⟨E2, S2⟩ := hE o
  have F : Corr X.K (Itv o (ι1 q.1) vs) (.its (kvs.map fun kv => kv.2)) (upd H1 (ι1 q.1) (.frz o (.dT vs))) ι1 st3.length := Corr.dv upd_same (by rw [hl]; exact hr.extW (by rw [hl] at E2; exact E2.toExt0.w))
  exact for_ok F (Ext.refl _ _ _) S2 ((L.ext E1).ext E2) (postS_thaw hn hl ha nf E1 P)
end
end Ev
set_option Elab.async false
set_option linter.all false
set_option maxRecDepth 100000
set_option maxHeartbeats 16000000
namespace Ev
open PySem PySem.Spec PyProof.Rows L2
noncomputable abbrev OwnFrame (X : Cx) : Prop := X.stack = X.env :: X.outer ∧ X.env.frame = some X.env.locals
noncomputable def SS (T : Tab) (g : Fns) (n : Nat) : Prop := ∀ {X : Cx} {sc : Scope} {N : List Str} {s : Stmt} {s' : S} (Xw : Addr → L2.St → Hp → Prop), Ctx T g X sc N → (∀ y, X.fn y = true) → PassesOwn (model X.prog X.w) X.A X.env X.xe → OwnFrame X → cS T n sc N s = some s' → PS X s (tS X.K Xw (exec g s'))
noncomputable def SSs (T : Tab) (g : Fns) (n : Nat) : Prop := ∀ {X : Cx} {sc : Scope} {N : List Str} {s : List Stmt} {s' : List S} (Xw : Addr → L2.St → Hp → Prop), Ctx T g X sc N → (∀ y, X.fn y = true) → PassesOwn (model X.prog X.w) X.A X.env X.xe → OwnFrame X → cSs T n sc N s = some s' → PSs X s (tS X.K Xw (execs g s'))
theorem sss_step {T : Tab} {g : Fns} {n : Nat} (h1 : SS T g n) (h2 : SSs T g n) : SSs T g (n + 1) := by
  intro X sc N s s' Xw C hf hp hst h
  unfold cSs at h
  split at h
  · cases h
    refine pss_nil.imp fun D σ H ⟨ι, st, loc, S, L, P⟩ => ?_
    rw [execs] at P
    exact P H ι σ (Ext.refl _ _ _) S L
  · split at h
    · rename_i a r _ _ a' r' ea er
      cases h
      refine (pss_cons (h1 Xw C hf hp hst ea) (h2 Xw C hf hp hst er)).imp fun D σ H ⟨ι, st, loc, S, L, P⟩ => ?_
      rw [execs] at P
      obtain ⟨f, st1, e1, P⟩ := bnd_invS P
      refine ⟨ι, st, loc, S, L, ?_⟩
      rw [e1]
      cases f with
      | nx loc1 => exact fun H1 ι1 σ1 E1 S1 L1 => ⟨ι1, st1, loc1, S1, L1, P.mono E1⟩
      | rt d => exact P
      | ex n l => exact P
    · cases h
theorem swaps_no {T : Tab} {n : Nat} {sc : Scope} {N : List Str} {e : Expr} {e' : Ex} (hk : isComp e = false) (hm : cE T n sc N e = some e') (o : Option Expr) (l : Nat) (env : Env) (ho : o = none ∨ ∃ x p, o = some (.Name x p)) : swapsWith e o l env = pure false := by
  cases n with
  | zero => cases hm
  | succ n =>
    rcases ho with rfl | ⟨x, p, rfl⟩
    · cases n <;> cases e <;> first | rfl | (simp [isComp] at hk; done) | (simp [cE, cT] at hm; done)
    · cases n <;> cases e <;> first | rfl | (simp [isComp] at hk; done) | (simp [cE, cT] at hm; done)
theorem isDpop_comp {e : Expr} (h : isDpop e = true) : isComp e = false := by
  unfold isDpop at h
  split at h
  · rfl
  · cases h
theorem sx_step {T : Tab} {g : Fns} {n : Nat} {X : Cx} {sc : Scope} {N : List Str} {s : Stmt} {s' : S} {Xw : Addr → L2.St → Hp → Prop} (C : Ctx T g X sc N) (hf : ∀ y, X.fn y = true) (h : cX T n sc N s = some s') : PS X s (tS X.K Xw (exec g s')) := by
  have hN : X.N.Nodup := by rw [C.n]; exact C.nd
  have snd := sound T g n
  have he := fun {e : Expr} {e' : Ex} (q : cE T n sc N e = some e') => snd.1 C q
  unfold cX at h
  split at h
  · split at h
    · split at h
      · rename_i ht
        obtain ⟨_, rfl⟩ := nm?_inv ht
        split at h
        · rename_i hc2
          obtain ⟨_, rfl⟩ := comp2?_inv hc2
          split at h
          · rename_i hk
            obtain ⟨hl, rfl, hcm⟩ := hk
            split at h
            · rename_i hi hz
              cases h
              obtain ⟨x, y, px, py, k, pt, rfl, hc, hd⟩ := snd.2.2.2.2 C hcm hz
              exact (hd.ps C hcm hc (by rw [C.n]; exact ixOf_get hi) (loc_of C hl) (.inl (hf _))).imp fun D σ H q => rd_set q
            · cases h
          · cases h
        · cases h
      · split at h
        · rename_i hs
          obtain ⟨_, rfl⟩ := sub?_inv hs
          split at h
          · rename_i hp
            simp only [Bool.and_eq_true] at hp
            split at h
            · rename_i a1 a2 a3
              cases h
              split
              · exact s_dset C.un hp.2 (he a1).1 (he a2).1 (he a3).1
              · exact s_setix hp.1 (he a1).1 (he a2).1 (he a3).1
            · cases h
          · cases h
        · cases h
    · cases h
  · split at h
    · rename_i hs
      obtain ⟨_, rfl⟩ := sub?_inv hs
      split at h
      · rename_i hp
        simp only [Bool.and_eq_true] at hp
        split at h
        · rename_i hn a1 a2 a3
          cases h
          rw [augNeg_inv hn]
          exact s_daug C.un hp.1 (he a1).1 (he a2).1 (he a3).1
        · cases h
      · cases h
    · cases h
  · split at h
    · rename_i hd
      obtain ⟨e', q, rfl⟩ := map_some h
      exact s_ex (isDpop_comp hd) ⟨n, sc, N, q⟩ (he q).1
    · cases h
  · cases h
theorem ss_step {T : Tab} {g : Fns} {n : Nat} (h1 : SS T g n) (h2 : SSs T g n) : SS T g (n + 1) := by
  intro X sc N s s' Xw C hf hp hst h
  have snd := sound T g n
  have he := fun {e : Expr} {e' : Ex} (q : cE T n sc N e = some e') => snd.1 C q
  unfold cS at h
  split at h
  · rename_i r hr
    cases h
    exact sx_step C hf hr
  split at h
  · split at h
    · split at h
      · rename_i ht
        obtain ⟨_, rfl⟩ := nm?_inv ht
        split at h
        · rename_i hl
          simp only [Bool.and_eq_true] at hl
          obtain ⟨hl, h2c⟩ := hl
          split at h
          · rename_i i e' hi hee
            cases h
            exact (ps_set (by rw [C.n]; exact C.nd) (by rw [C.n]; exact ixOf_get hi) (loc_of C hl) (he hee).1 (swaps_no (by simpa using h2c) hee _ _ _ (.inr ⟨_, _, rfl⟩)) (.inl (hf _))).imp fun D σ H q => rd_set q
          · cases h
        · cases h
      · cases h
    · cases h
  · split at h
    · split at h
      · rename_i e' q
        cases h
        exact s_ret (he q).1
      · cases h
    · cases h
  · split at h
    · split at h
      · cases h
      · split at h
        · split at h
          · split at h
            · rename_i hm
              simp only [Bool.and_eq_true] at hm
              obtain ⟨o', q, rfl⟩ := map_some h
              exact s_clr hm.1.1 hm.1.2 (base_no hm.2 _ _) (he q).1
            · cases h
          · split at h
            · rename_i hm
              simp only [Bool.and_eq_true] at hm
              split at h
              · rename_i a1 a2
                cases h
                exact s_app hm.1.1 hm.1.2 (cE_star a2 [] _) (base_no hm.2 _ _) (he a1).1 (he a2).1
              · cases h
            · split at h
              · rename_i hm
                simp only [Bool.and_eq_true] at hm
                split at h
                · rename_i a1 a2
                  cases h
                  exact s_ext hm.1.1 hm.1.2 (cE_star a2 [] _) (base_no hm.2 _ _) (he a1).1 (he a2).1
                · cases h
              · cases h
          · cases h
        · cases h
    · cases h
  · split at h
    · rename_i a1 a2 a3
      cases h
      exact s_if (he a1).2 (h2 Xw C hf hp hst a2) (h2 Xw C hf hp hst a3)
    · cases h
  · split at h
    · cases h
    · split at h
      · rename_i ht
        obtain ⟨_, rfl⟩ := nm?_inv ht
        split at h
        · rename_i hl
          split at h
          · rename_i hi hb
            split at h
            · rename_i vl d hw
              obtain ⟨d', q, rfl⟩ := map_some h
              unfold dwalk at hw
              split at hw
              · cases hw
                rw [if_neg (by decide)]
                exact s_forK hp C hl.2 hl.1 hf hi (he q).1 (cE_fold q _) (h2 Xw C hf hp hst hb)
              · obtain ⟨d0, hv, e⟩ := Option.map_eq_some_iff.mp hw
                cases e
                obtain ⟨ap, cp, rfl, hline, hd⟩ := walkOf_inv hv
                rw [if_pos rfl]
                exact s_forV hp C hl.2 hl.1 hf hi hline (base_no (dn_name hd) _ _) (he q).1 (h2 Xw C hf hp hst hb)
            split at h
            · rename_i ra hra
              obtain ⟨_, _, rfl⟩ := call1?_inv (x := ra.1) (a := ra.2) hra
              split at h
              · rename_i hr
                obtain ⟨hr1, hr⟩ := hr
                rw [hr1] at hr ⊢
                obtain ⟨a', q, rfl⟩ := map_some h
                exact s_forR hp C hl.2 hl.1 hf hi hr (cE_star q [] _) (he q).1 (h2 Xw C hf hp hst hb)
              · obtain ⟨a', q, rfl⟩ := map_some h
                exact s_for hp C hl.2 hl.1 hf hi (he q).1 (cE_fold q _) (h2 Xw C hf hp hst hb)
            · obtain ⟨a', q, rfl⟩ := map_some h
              exact s_for hp C hl.2 hl.1 hf hi (he q).1 (cE_fold q _) (h2 Xw C hf hp hst hb)
          · cases h
        · cases h
      · split at h
        · split at h
          · rename_i hcm
            split at h
            · rename_i ht q hb
              cases h
              exact s_forU hp C hcm hf ht (he q).1 (cE_fold q _) (h2 Xw C hf hp hst hb)
            · cases h
          · cases h
        · cases h
  · split at h
    · split at h
      · rename_i hc hb
        cases h
        exact s_whil hp (he hc).2 (h2 Xw C hf hp hst hb)
      · cases h
    · cases h
  · cases h
theorem ssound (g : Fns) : ∀ n T, SS T g n ∧ SSs T g n
  | 0, T => by
    refine ⟨?_, ?_⟩
    · intro X sc N s s' Xw C hf hp hst h
      unfold cS at h
      cases h
    · intro X sc N s s' Xw C hf hp hst h
      unfold cSs at h
      cases h
  | n + 1, T => ⟨ss_step (ssound g n T).1 (ssound g n T).2, sss_step (ssound g n T).1 (ssound g n T).2⟩
structure Rec where
  name : Str
  fname : Str
  qual : Str
  ps : List Str
  N : List Str
  st : Stmt
  fn : Fn
structure Chk (T : Tab) (r : Rec) : Prop where
  sc : FnScope r.N r.ps (defScope r.st)
  nm : ∀ x ∈ r.N, (x == ("__debug__" : Str)) = false ∧ (x == ("__classdict__" : Str)) = false
  cc : cSs T 100 (defScope r.st) r.N (defBody r.st) = some r.fn.body
  ar : r.fn.ar = r.ps.length
  nl : r.fn.nl = r.N.length
structure Lnk (K : PySem.W.Frag) (r : Rec) (a : Addr) (fd : FuncData) : Prop where
  f : Fun K r.fname r.qual r.st a fd
  b : Binds K fd r.ps []
theorem okE {P : Program} {w : World} {K : PySem.W.Frag} {mg : Str → Option Value} {base : Heap} {x qual : Str} {st : Stmt} {f : Addr} {fd : FuncData} {N ps : List Str} {k : Nat} {sp : Sp} (F : Fun K x qual st f fd) (S : FnScope N ps (defScope st)) (len : ∀ vs H Q E, sp vs H Q E → vs.length = ps.length)
    (hbody : ∀ (cdv : Value) (A : Around) (outer : List Env) (s : Shared) (H : Hp) (vs : List V) (Q : VK) (E : XK), Room k (A.deeper (envOfC qual (defScope st) s.heap.objs.size f cdv)) → sp vs H Q E →
      ∃ t, PSs (cxOf (CXe P w) P w K mg base N qual (defScope st) f cdv A outer s H E) (defBody st) t ∧ t { nx := fun _ H' => Q .non H', rt := Q } (start N vs) H) : FnOk P w K mg base (CXe P w) (k + 1) f fd ps sp := by
  obtain ⟨oc, od, kV, doc, pm, an, cdv, ct, osl, rfl, lk, hcd⟩ := F.ex
  exact fn_of lk hcd S len fun A outer s H vs Q E hr hsp => hbody cdv A outer s H vs Q E hr hsp
theorem calls_bad {recs : List Rec} {T : Tab} {i : Nat} {r : Rec} (hr : recs[i]? = some r) (hc : Chk T r) : ∀ (n : Nat) (ds : List D) (st : Sto), ds.length ≠ r.ps.length → calls (recs.map (·.fn)) n i ds st = .bad
  | 0, _, _, _ => rfl
  | n + 1, ds, st, h => by
    have e : (recs.map (·.fn))[i]? = some r.fn := by rw [List.getElem?_map, hr]; rfl
    simp only [calls, e, callB]
    rw [if_neg (by rw [hc.ar]; exact h)]
    rfl
theorem start_rel {K : PySem.W.Frag} {H : Hp} {ι : Nat → Addr} {m : Nat} {ds : List D} {vs : List V} (r : VRels K H ι m ds vs) (N : List Str) (k : Nat) (hk : k = N.length) : LRel K H ι m (ds.map some ++ List.replicate (k - ds.length) none) (L2.start N vs) := by
  have l := r.length
  refine ⟨by simp [L2.start, l, hk], fun i d e => ?_⟩
  by_cases hi : i < ds.length
  · rw [List.getElem?_append_left (by simpa using hi), List.getElem?_map] at e
    cases q : ds[i]? with
    | none => rw [q] at e; cases e
    | some d' =>
      rw [q] at e
      have e' : d' = d := by simpa using e
      subst e'
      obtain ⟨v, hv, rv⟩ := r.get q
      refine ⟨v, ?_, rv⟩
      unfold L2.start
      rw [List.getElem?_append_left (by simpa [← l] using hi), List.getElem?_map, hv]
      rfl
  · rw [List.getElem?_append_right (by simpa using hi), List.getElem?_replicate] at e
    split at e <;> cases e
structure Facts (K : PySem.W.Frag) (mg : Str → Option Value) (T : Tab) (recs : List Rec) : Prop where
  chk : ∀ r ∈ recs, Chk T r
  calm : T.calm = true
  fns : ∀ (i : Nat) (f : Str), T.fns[i]? = some f → (f == ("__debug__" : Str)) = false ∧ ∃ r a fd, recs[i]? = some r ∧ Lnk K r a fd ∧ mg f = some (.ref a)
  blt : ∀ x ∈ blts, mg x = none
theorem all_fns {P : Program} {w : World} {K : PySem.W.Frag} {mg : Str → Option Value} {base : Heap} {T : Tab} {recs : List Rec} (Z : Facts K mg T recs) :
    ∀ (n i : Nat) (r : Rec) (a : Addr) (fd : FuncData), recs[i]? = some r → Lnk K r a fd → FnOk P w K mg base (CXe P w) (2 * n) a fd r.ps (spF K r.ps.length (calls (recs.map (·.fn)) n i))
  | 0, i, r, a, fd, hr, L => ⟨fun vs H Q E h => h.1, fun A outer s H args us vs Q E _ _ _ _ h => by
      obtain ⟨_, ι, st, ds, _, _, q⟩ := h
      exact False.elim q⟩
  | n + 1, i, r, a, fd, hr, L => by
    have c := Z.chk r (List.mem_of_getElem? hr)
    refine okE (k := 2 * n + 1) L.f c.sc (fun vs H Q E h => h.1) (fun cdv A outer s H vs Q E hroom h => ?_)
    obtain ⟨hlen, ι, st, ds, S, rv, q⟩ := h
    have un := hroom.un
    have C : Ctx T (calls (recs.map (·.fn)) n) (cxOf (CXe P w) P w K mg base r.N r.qual (defScope r.st) a cdv A outer s H E) (defScope r.st) r.N := by
      refine ⟨rfl, rfl, c.sc.nd, c.nm, fun _ => rfl, ?_, fun j f hj => ?_, Z.blt⟩
      · show (A.deeper _).units + 100 < cLine
        omega
      · obtain ⟨hd, r2, a2, fd2, hr2, L2', hm⟩ := Z.fns j f hj
        exact ⟨hd, a2, fd2, r2.ps, 2 * n, hm, L2'.f.kp, L2'.b, hroom.mono (Nat.le_succ _), calls_bad hr2 (Z.chk r2 (List.mem_of_getElem? hr2)) n, all_fns Z n j r2 a2 fd2 hr2 L2'⟩
    refine ⟨_, (ssound _ 100 _).2 NoEx C (fun _ => rfl) PassesOwn.leaving ⟨rfl, rfl⟩ c.cc, ι, st, ds.map some ++ List.replicate (r.fn.nl - ds.length) none, S, start_rel rv _ _ c.nl, ?_⟩
    have e : (recs.map (·.fn))[i]? = some r.fn := by rw [List.getElem?_map, hr]; rfl
    have hd : ds.length = r.fn.ar := by rw [rv.length, hlen, c.ar]
    simp only [calls, e, callB] at q
    rw [if_pos hd] at q
    unfold bnd at q
    cases e1 : execs (calls (recs.map (·.fn)) n) r.fn.body (ds.map some ++ List.replicate (r.fn.nl - ds.length) none) st with
    | bad => rw [e1] at q; exact q.elim
    | ok f st1 =>
      rw [e1] at q
      cases f with
      | nx loc => exact fun H1 ι1 σ1 E1 S1 L1 => q H1 ι1 .non E1 S1 .non
      | rt d => exact q
      | ex m l => exact q.elim
noncomputable def spLaw (K : PySem.W.Frag) : Sp := fun vs H Q _ => ∃ (a : Addr) (ns : List Int), vs = [.ref a] ∧ SqL K H a (ns.map V.int) ∧ Only H ∧ ns.length ≤ 63 ∧ ∀ H', Q (.bl true) H'
theorem ints_rel {K : PySem.W.Frag} {H : Hp} {ι : Nat → Addr} {m : Nat} : ∀ ns : List Int, VRels K H ι m (ns.map .int) (ns.map V.int)
  | [] => .nil
  | n :: ns => .cons (.int n) (ints_rel ns)
theorem law_fn {P : Program} {w : World} {K : PySem.W.Frag} {mg : Str → Option Value} {base : Heap} {n : Nat} {a : Addr} {fd : FuncData} {x : Str} {f : List D → M Rs} (F : FnOk P w K mg base (CXe P w) n a fd [x] (spF K 1 f))
    (h : ∀ ns : List Int, ns.length ≤ 63 → ∃ st', f [.fl (ns.map .int)] [] = .ok (.v (.bl true)) st') : FnOk P w K mg base (CXe P w) n a fd [x] (spLaw K) := by
  refine F.imp fun vs H Q E ⟨a, ns, e, hS, hO, hl, q⟩ => ?_
  subst e
  obtain ⟨st', e⟩ := h ns hl
  refine ⟨rfl, fun _ => 0, [], [.fl (ns.map .int)], ⟨fun i _ hi => absurd hi (Nat.not_lt_zero _), fun i o e => by simp at e⟩, .cons (.fl (xs := ns.map V.int) ?_ (ints_rel ns)) .nil, ?_⟩
  · rcases hS with (h | h) | h
    · rcases hO a with z | ⟨o, xs, z⟩
      · rw [h] at z; cases z
      · rw [h] at z; cases z
    · exact .inl h
    · exact .inr h
  · rw [e]
    intro H' ι' v E' S' r
    cases r
    exact q H'
theorem walk {l : PySem.W.OpenLaw} {q : Program} {loose : List Str} {XP : (Str → Option Value) → Heap → Prop} {YP : World → Heap → Prop} {d : DefRec} {K : Params → PySem.W.Frag} {x : Str} {n : Nat} (hn : l.most = some 63) (hdf : d.params.defaults = []) (hr : Room n callerA)
    (hY : ∀ (w : World) (h : Heap), YP w h → (K w.params).In h)
    (F : ∀ (w : World) (mg : Str → Option Value) (fa : Addr) (h : Heap), (K w.params).In h → h.Ns mainGlobals mg → mg d.name = some (.ref fa) →
      ∃ fd : FuncData, (∀ (s : Shared) (u : Value), BindsTo s fd ⟨[u], []⟩ [(x, u)]) ∧ ∀ base : Heap, (K w.params).In base → base.Ns mainGlobals mg → FnOk l.prog w (K w.params) mg base (CXe l.prog w) n fa fd [x] (spLaw (K w.params))) :
    PySem.W.WalkO q loose XP YP l.row.toRowW d [] (fun f vs => PySem.call f vs) :=
  L2.walk_of (n := 63) (k := n) (x := x) (CX := fun w => CXe l.prog w) (sp := fun w => spLaw (K w.params)) hn (by decide) hdf hr hY F (fun _ _ a ns hl hO hS => ⟨a, ns, rfl, hS, hO, hl, fun _ => rfl⟩) fun _ _ _ _ _ z => z
end Ev
set_option Elab.async false
set_option linter.all false
set_option maxRecDepth 100000
set_option maxHeartbeats 4000000
namespace Ev
open PySem PySem.Spec PyProof.Rows L2
section
variable {K : PySem.W.Frag} {mg : Str → Option Value} {T : Tab} {recs : List Rec} {h : Heap}
theorem facts_mk (X : K.In h) (G : h.Ns mainGlobals mg) (hc : ∀ r ∈ recs, Chk T r) (hq : T.calm = true) (hlen : T.fns.length ≤ recs.length)
    (hf : ∀ p ∈ List.zip T.fns recs, (p.1 == ("__debug__" : Str)) = false ∧ ∃ a fd, Lnk K p.2 a fd ∧ mg p.1 = some (.ref a))
    (hb : ∀ x ∈ blts, mg x = none) : Facts K mg T recs := by
  refine ⟨hc, hq, ?_, hb⟩
  · intro i f e
    have hl : i < recs.length := Nat.lt_of_lt_of_le (List.getElem?_eq_some_iff.mp e).1 hlen
    have er : recs[i]? = some recs[i] := List.getElem?_eq_getElem hl
    have : (f, recs[i]) ∈ List.zip T.fns recs := List.mem_of_getElem? (i := i) (by rw [List.getElem?_zip_eq_some]; exact ⟨e, er⟩)
    obtain ⟨d, a, fd, L, m⟩ := hf _ this
    exact ⟨d, _, a, fd, er, L, m⟩
end
end Ev
set_option Elab.async false
set_option linter.all false
set_option maxRecDepth 100000
set_option maxHeartbeats 4000000
namespace Ev
open PySem L2
noncomputable def W {α : Type} (r : R α) (Q : α → Sto → Prop) : Prop := match r with
  | .ok a st => Q a st
  | .bad => False
theorem W.mono {α : Type} {r : R α} {Q Q' : α → Sto → Prop} (h : W r Q) (k : ∀ a st, Q a st → Q' a st) : W r Q' := by
  cases r with
  | ok a st => exact k _ _ h
  | bad => exact h
theorem W.get {α : Type} {r : R α} {Q : α → Sto → Prop} (h : W r Q) : ∃ a st, r = .ok a st ∧ Q a st := by
  cases r with
  | ok a st => exact ⟨a, st, rfl, h⟩
  | bad => exact h.elim
noncomputable def Vq (Q : D → Sto → Prop) : Rs → Sto → Prop := fun r st => match r with
  | .v d => Q d st
  | .x _ => False
noncomputable abbrev Wv (r : R Rs) (Q : D → Sto → Prop) : Prop := W r (Vq Q)
theorem w_bnd {α β : Type} {m : M α} {f : α → M β} {st : Sto} {Q : β → Sto → Prop} (h : W (m st) fun a st1 => W (f a st1) Q) : W (bnd m f st) Q := by
  unfold bnd
  cases e : m st with
  | ok a st1 => rw [e] at h; exact h
  | bad => rw [e] at h; exact h
section
variable {g : Fns} {loc : Loc} {st : Sto} {Q : D → Sto → Prop} {a b c : Ex}
theorem w_c {d : D} (h : Q d st) : W (run g (.c d) loc st) Q := by rw [run]; exact h
theorem w_v {i : Nat} {d : D} (e : loc[i]? = some (some d)) (h : Q d st) : W (run g (.v i) loc st) Q := by
  rw [run]; unfold ofO; rw [e]; exact h
theorem w_tup {es : List Ex} (h : W (runs g es loc st) fun ds st1 => Q (.tup ds) st1) : W (run g (.tup es) loc st) Q := by
  rw [run]; exact w_bnd (h.mono fun _ _ q => q)
theorem w_lst {es : List Ex} (h : W (runs g es loc st) fun ds st1 => Q (.ref st1.length) (st1 ++ [.lst ds])) : W (run g (.lst es) loc st) Q := by
  rw [run]; exact w_bnd (h.mono fun _ _ q => q)
theorem w_bin {op : Bo} (h : W (run g a loc st) fun x st1 => W (run g b loc st1) fun y st2 => W (binop op x y st2) Q) : W (run g (.bin op a b) loc st) Q := by
  rw [run]; exact w_bnd (h.mono fun _ _ q => w_bnd q)
theorem w_not (h : W (run g a loc st) fun x st1 => ∃ k, x = .bl k ∧ Q (.bl (!k)) st1) : W (run g (.not a) loc st) Q := by
  rw [run]; exact w_bnd (h.mono fun _ _ ⟨i, e, q⟩ => by subst e; exact q)
theorem w_and (h : W (run g a loc st) fun x st1 => ∃ k, x = .bl k ∧ (k = true → W (run g b loc st1) Q) ∧ (k = false → Q (.bl false) st1)) : W (run g (.and a b) loc st) Q := by
  rw [run]; exact w_bnd (h.mono fun _ _ ⟨k, e, q1, q2⟩ => by
    subst e
    cases k with
    | true => exact q1 rfl
    | false => exact q2 rfl)
theorem w_or (h : W (run g a loc st) fun x st1 => ∃ k, x = .bl k ∧ (k = true → Q (.bl true) st1) ∧ (k = false → W (run g b loc st1) Q)) : W (run g (.or a b) loc st) Q := by
  rw [run]; exact w_bnd (h.mono fun _ _ ⟨k, e, q1, q2⟩ => by
    subst e
    cases k with
    | true => exact q1 rfl
    | false => exact q2 rfl)
theorem w_cmp {op : CmpOp} (h : W (run g a loc st) fun x st1 => W (run g b loc st1) fun y st2 => W (cmpop op x y st2) Q) : W (run g (.cmp op a b) loc st) Q := by
  rw [run]; exact w_bnd (h.mono fun _ _ q => w_bnd q)
theorem w_ix (h : W (run g a loc st) fun x st1 => W (run g b loc st1) fun y st2 => W (index x y st2) Q) : W (run g (.ix a b) loc st) Q := by
  rw [run]; exact w_bnd (h.mono fun _ _ q => w_bnd q)
theorem w_slTo (h : W (run g a loc st) fun x st1 => W (run g b loc st1) fun y st2 => ∃ i, y = .int i ∧ W (slice x none (some i) st2) Q) : W (run g (.sl a b b false true) loc st) Q := by
  rw [run]
  refine w_bnd (h.mono fun _ _ q => w_bnd ?_)
  show W ((bnd (if true = true then bnd (run g b loc) fun z => bnd (ofO (int? z)) fun i => ret (some i) else ret none) fun h => slice _ none h) _) Q
  exact w_bnd (show W ((bnd (run g b loc) fun z => bnd (ofO (int? z)) fun i => ret (some i)) _) _ from w_bnd (q.mono fun _ _ ⟨i, e, q⟩ => by subst e; exact q))
theorem w_fn {f : Nat} {args : List Ex} (h : W (runs g args loc st) fun ds st1 => Wv (g f ds st1) Q) : W (run g (.fn f args) loc st) Q := by
  rw [run]
  refine w_bnd (h.mono fun ds st1 q => w_bnd (W.mono q fun r st2 q => ?_))
  cases r with
  | v d => exact q
  | x n => exact q.elim
theorem w_bt {f : Bt} {args : List Ex} (h : W (runs g args loc st) fun ds st1 => W (btin f ds st1) Q) : W (run g (.bt f args) loc st) Q := by
  rw [run]; exact w_bnd h
theorem w_isi {t : Ty} (h : W (run g a loc st) fun x st1 => ∃ k, isiD st1 t x = some k ∧ Q (.bl k) st1) : W (run g (.isi a t) loc st) Q := by
  rw [run]; exact w_bnd (h.mono fun _ _ ⟨k, e, q⟩ => by show W (match isiD _ t _ with | some k => R.ok (.bl k) _ | none => .bad) Q; rw [e]; exact q)
theorem w_popL (h : W (run g a loc st) fun x st1 => ∃ n xs y, x = .ref n ∧ st1[n]? = some (.lst xs) ∧ xs[xs.length - 1]? = some y ∧ Q y (st1.set n (.lst xs.dropLast))) : W (run g (.pop a false) loc st) Q := by
  rw [run]; exact w_bnd (h.mono fun x st1 ⟨n, xs, y, e, e1, e2, q⟩ => by subst e; simp only [popD, e1, e2]; exact q)
theorem w_popF (h : W (run g a loc st) fun x st1 => ∃ n y ys, x = .ref n ∧ st1[n]? = some (.lst (y :: ys)) ∧ Q y (st1.set n (.lst ys))) : W (run g (.pop a true) loc st) Q := by
  rw [run]; exact w_bnd (h.mono fun x st1 ⟨n, y, ys, e, e1, q⟩ => by subst e; simp only [popD, e1]; exact q)
theorem w_comp {rng : Bool} (h : W (run g a loc st) fun d st1 => ∃ s, source rng d = some s ∧ W (compS (fun x => bnd (run g b (some x :: loc)) fun y => ret (some y)) s st1) Q) : W (run g (.comp rng a b) loc st) Q := by
  rw [run]; exact w_bnd (h.mono fun _ _ ⟨s, e, q⟩ => w_bnd (by unfold ofO; rw [e]; exact q))
end
section
variable {g : Fns} {loc : Loc} {st : Sto} {Q : List D → Sto → Prop}
theorem w_anil (h : Q [] st) : W (runs g [] loc st) Q := by rw [runs]; exact h
theorem w_acons {e : Ex} {es : List Ex} (h : W (run g e loc st) fun d st1 => W (runs g es loc st1) fun ds st2 => Q (d :: ds) st2) : W (runs g (e :: es) loc st) Q := by
  rw [runs]; exact w_bnd (h.mono fun _ _ q => w_bnd (q.mono fun _ _ q => q))
end
section
variable {st : Sto} {Q : D → Sto → Prop} {f : D → M (Option D)}
theorem w_compN {xs : List D} {Q : List D → Sto → Prop} (I : Nat → List D → Sto → Prop) (step : ∀ i x acc st, xs[i]? = some x → I i acc st → W (f x st) fun o st1 => I (i + 1) (match o with | some y => acc ++ [y] | none => acc) st1)
    (fin : ∀ acc st, I xs.length acc st → Q acc st) : ∀ k i acc st, i ≤ xs.length → xs.length < k + i → I i acc st → W (compN f (.its xs) k i acc st) Q
  | 0, i, acc, st, h1, h2, h => by omega
  | k + 1, i, acc, st, h1, h2, h => by
    simp only [compN, nxt]
    cases e : xs[i]? with
    | none =>
      have : i = xs.length := by have := List.getElem?_eq_none_iff.mp e; omega
      subst this
      exact fin acc st h
    | some x =>
      have hi := (List.getElem?_eq_some_iff.mp e).1
      refine w_bnd ((step i x acc st e h).mono fun o st1 q => ?_)
      cases o with
      | none => exact w_compN I step fin k (i + 1) acc st1 hi (by omega) q
      | some y => exact w_compN I step fin k (i + 1) (acc ++ [y]) st1 hi (by omega) q
theorem w_compS {xs : List D} (hl : xs.length ≤ 1000000) (I : Nat → List D → Sto → Prop) (h0 : I 0 [] st) (step : ∀ i x acc st, xs[i]? = some x → I i acc st → W (f x st) fun o st1 => I (i + 1) (match o with | some y => acc ++ [y] | none => acc) st1)
    (fin : ∀ acc st, I xs.length acc st → Q (.ref st.length) (st ++ [.lst acc])) : W (compS f (.its xs) st) Q := by
  unfold compS
  rw [if_pos (show lenS (.its xs) st ≤ 1000000 from hl)]
  refine w_bnd (W.mono (w_compN (Q := fun acc st => Q (.ref st.length) (st ++ [.lst acc])) I step fin (xs.length + 1) 0 [] st (by omega) (by show xs.length < xs.length + 1 + 0; omega) h0) fun acc st q => (show Q (.ref st.length) (st ++ [.lst acc]) from q))
theorem w_compNA {n : Nat} {xs : List D} {Q : List D → Sto → Prop} (I : Nat → List D → Sto → Prop) (keep : ∀ i acc st, I i acc st → st[n]? = some (.lst xs)) (step : ∀ i x acc st, xs[i]? = some x → I i acc st → W (f x st) fun o st1 => I (i + 1) (match o with | some y => acc ++ [y] | none => acc) st1)
    (fin : ∀ acc st, I xs.length acc st → Q acc st) : ∀ k i acc st, i ≤ xs.length → xs.length < k + i → I i acc st → W (compN f (.at n) k i acc st) Q
  | 0, i, acc, st, h1, h2, h => by omega
  | k + 1, i, acc, st, h1, h2, h => by
    simp only [compN, nxt, keep i acc st h]
    cases e : xs[i]? with
    | none =>
      have : i = xs.length := by have := List.getElem?_eq_none_iff.mp e; omega
      subst this
      exact fin acc st h
    | some x =>
      have hi := (List.getElem?_eq_some_iff.mp e).1
      refine w_bnd ((step i x acc st e h).mono fun o st1 q => ?_)
      cases o with
      | none => exact w_compNA I keep step fin k (i + 1) acc st1 hi (by omega) q
      | some y => exact w_compNA I keep step fin k (i + 1) (acc ++ [y]) st1 hi (by omega) q
theorem w_compSA {n : Nat} {xs : List D} (hl : xs.length ≤ 1000000) (hn : st[n]? = some (.lst xs)) (I : Nat → List D → Sto → Prop) (h0 : I 0 [] st) (keep : ∀ i acc st, I i acc st → st[n]? = some (.lst xs)) (step : ∀ i x acc st, xs[i]? = some x → I i acc st → W (f x st) fun o st1 => I (i + 1) (match o with | some y => acc ++ [y] | none => acc) st1)
    (fin : ∀ acc st, I xs.length acc st → Q (.ref st.length) (st ++ [.lst acc])) : W (compS f (.at n) st) Q := by
  have hL : lenS (.at n) st = xs.length := by simp only [lenS, hn]
  unfold compS
  rw [hL, if_pos hl]
  refine w_bnd (W.mono (w_compNA (Q := fun acc st => Q (.ref st.length) (st ++ [.lst acc])) I keep step fin (xs.length + 1) 0 [] st (by omega) (by omega) h0) fun acc st q => (show Q (.ref st.length) (st ++ [.lst acc]) from q))
theorem w_elt {g : Fns} {loc : Loc} {b : Ex} {x : D} {Q : Option D → Sto → Prop} (h : W (run g b (some x :: loc) st) fun y st1 => Q (some y) st1) : W (bnd (run g b (some x :: loc)) (fun y => ret (some y)) st) Q := w_bnd (h.mono fun _ _ q => q)
end
noncomputable def Kn (g : Fns) (ss : List S) (Q : Fl → Sto → Prop) : Fl → Sto → Prop := fun r st => match r with
  | .nx loc => W (execs g ss loc st) Q
  | .rt d => Q (.rt d) st
  | .ex n l => Q (.ex n l) st
noncomputable def Kr (Q : D → Sto → Prop) : Fl → Sto → Prop := fun r st => match r with
  | .nx _ => Q .non st
  | .rt d => Q d st
  | .ex _ _ => False
noncomputable def Kx (Q : Rs → Sto → Prop) : Fl → Sto → Prop := fun r st => match r with
  | .nx _ => Q (.v .non) st
  | .rt d => Q (.v d) st
  | .ex _ _ => False
section
variable {g : Fns} {loc : Loc} {st : Sto} {Q : Fl → Sto → Prop} {ss : List S} {e o i c : Ex}
theorem kn_nx (h : W (execs g ss loc st) Q) : Kn g ss Q (.nx loc) st := h
theorem kn_rt {d : D} (h : Q (.rt d) st) : Kn g ss Q (.rt d) st := h
theorem kr_rt {Q : D → Sto → Prop} {d : D} (h : Q d st) : Kr Q (.rt d) st := h
theorem w_snil (h : Q (.nx loc) st) : W (execs g [] loc st) Q := by rw [execs]; exact h
theorem w_scons {s : S} (h : W (exec g s loc st) (Kn g ss Q)) : W (execs g (s :: ss) loc st) Q := by
  rw [execs]
  refine w_bnd (h.mono fun r st1 q => ?_)
  cases r with
  | nx loc' => exact q
  | rt d => exact q
  | ex n l => exact q
theorem w_set {n : Nat} (h : W (run g e loc st) fun d st1 => W (execs g ss (loc.set n (some d)) st1) Q) : W (execs g (.set n e :: ss) loc st) Q :=
  w_scons (by rw [exec]; exact w_bnd (h.mono fun _ _ q => q))
theorem w_setix (h : W (run g e loc st) fun d st1 => W (run g o loc st1) fun x st2 => W (run g i loc st2) fun k st3 => W (setitem x k d st3) fun _ st4 => W (execs g ss loc st4) Q) : W (execs g (.setix o i e :: ss) loc st) Q :=
  w_scons (by rw [exec]; exact w_bnd (h.mono fun _ _ q => w_bnd (q.mono fun _ _ q => w_bnd (q.mono fun _ _ q => w_bnd (q.mono fun _ _ q => q)))))
theorem w_ret (h : W (run g e loc st) fun d st1 => Q (.rt d) st1) : W (execs g (.ret e :: ss) loc st) Q :=
  w_scons (by rw [exec]; exact w_bnd (h.mono fun _ _ q => q))
theorem w_ex (h : W (run g e loc st) fun _ st1 => W (execs g ss loc st1) Q) : W (execs g (.ex e :: ss) loc st) Q :=
  w_scons (by rw [exec]; exact w_bnd (h.mono fun _ _ q => q))
theorem w_app (h : W (run g o loc st) fun x st1 => W (lstOk x st1) fun _ st2 => W (run g e loc st2) fun d st3 => W (append x d st3) fun _ st4 => W (execs g ss loc st4) Q) : W (execs g (.app o e :: ss) loc st) Q :=
  w_scons (by rw [exec]; exact w_bnd (h.mono fun _ _ q => w_bnd (q.mono fun _ _ q => w_bnd (q.mono fun _ _ q => w_bnd (q.mono fun _ _ q => q)))))
theorem w_whileN {c : Loc → M D} {f : Loc → M Fl} (I : Nat → Loc → Sto → Prop) (turn : ∀ m loc st, I m loc st → W (c loc st) fun x st1 => ∃ b, x = .bl b ∧ (b = true → ∃ m', m = m' + 1 ∧ W (f loc st1) fun r st2 => match r with | .nx loc' => I m' loc' st2 | .rt d => Q (.rt d) st2 | .ex n l => Q (.ex n l) st2) ∧ (b = false → Q (.nx loc) st1)) :
    ∀ k m loc st, m < k → I m loc st → W (whileN c f k loc st) Q
  | 0, m, loc, st, h1, h => by omega
  | k + 1, m, loc, st, h1, h => by
    rw [whileN]
    refine w_bnd ((turn m loc st h).mono fun x st1 ⟨b, e, q1, q2⟩ => ?_)
    subst e
    cases b with
    | false => exact q2 rfl
    | true =>
      obtain ⟨m', rfl, q⟩ := q1 rfl
      refine w_bnd (show W ((if true = true then bnd (f loc) _ else _) st1) _ from w_bnd (q.mono fun r st2 q => ?_))
      cases r with
      | nx loc' => exact w_whileN I turn k m' loc' st2 (by omega) q
      | rt d => exact q
      | ex n l => exact q
theorem w_if {x y : List S} (h : W (run g c loc st) fun z st1 => ∃ k, z = .bl k ∧ (k = true → W (execs g x loc st1) (Kn g ss Q)) ∧ (k = false → W (execs g y loc st1) (Kn g ss Q))) : W (execs g (.ite c x y :: ss) loc st) Q :=
  w_scons (by
    rw [exec]
    exact w_bnd (h.mono fun _ _ ⟨k, e, q1, q2⟩ => by
      subst e
      cases k with
      | true => exact q1 rfl
      | false => exact q2 rfl))
theorem w_forN {f : D → Loc → M Fl} {xs : List D} (I : Nat → Loc → Sto → Prop) (step : ∀ i x loc st, xs[i]? = some x → I i loc st → W (f x loc st) fun r st1 => match r with | .nx loc' => I (i + 1) loc' st1 | .rt d => Q (.rt d) st1 | .ex n l => Q (.ex n l) st1)
    (fin : ∀ loc st, I xs.length loc st → Q (.nx loc) st) : ∀ k i loc st, i ≤ xs.length → xs.length < k + i → I i loc st → W (forN f (.its xs) k i loc st) Q
  | 0, i, acc, st, h1, h2, h => by omega
  | k + 1, i, loc, st, h1, h2, h => by
    simp only [forN, nxt]
    cases e : xs[i]? with
    | none =>
      have : i = xs.length := by have := List.getElem?_eq_none_iff.mp e; omega
      subst this
      exact fin loc st h
    | some x =>
      have hi := (List.getElem?_eq_some_iff.mp e).1
      refine w_bnd ((step i x loc st e h).mono fun r st1 q => ?_)
      cases r with
      | nx loc' => exact w_forN I step fin k (i + 1) loc' st1 hi (by omega) q
      | rt d => exact q
      | ex n l => exact q
noncomputable def Kf (I : Loc → Sto → Prop) (Q : Fl → Sto → Prop) : Fl → Sto → Prop := fun r st => match r with
  | .nx loc => I loc st
  | .rt d => Q (.rt d) st
  | .ex n l => Q (.ex n l) st
theorem kf_nx {I : Loc → Sto → Prop} (h : I loc st) : Kf I Q (.nx loc) st := h
theorem w_for {n : Nat} {rng : Bool} {body : List S} (I : List D → Nat → Loc → Sto → Prop)
    (h : W (run g e loc st) fun d st1 => ∃ xs, source rng d = some (.its xs) ∧ I xs 0 loc st1 ∧ (∀ i x loc st, xs[i]? = some x → I xs i loc st → W (execs g body (loc.set n (some x)) st) (Kf (I xs (i + 1)) (Kn g ss Q))) ∧ ∀ loc st, I xs xs.length loc st → W (execs g ss loc st) Q) :
    W (execs g (.for_ n rng e body :: ss) loc st) Q := by
  refine w_scons ?_
  rw [exec]
  refine w_bnd (h.mono fun d st1 ⟨xs, hs, h0, step, fin⟩ => w_bnd ?_)
  unfold ofO
  rw [hs]
  show W (forS _ (.its xs) loc st1) _
  unfold forS
  refine w_forN (I xs) (fun i x loc st e q => (step i x loc st e q).mono fun r st1 q => ?_) fin _ 0 loc st1 (by omega) (by show xs.length < xs.length + 1 + 0; omega) h0
  cases r with
  | nx loc' => exact q
  | rt d => exact q
  | ex n l => exact q
end
section
variable {g : Fns} {loc : Loc} {st : Sto} {Q : Fl → Sto → Prop} {ss : List S} {e : Ex}
theorem w_forNA {f : D → Loc → M Fl} {n : Nat} {xs : List D} (I : Nat → Loc → Sto → Prop) (keep : ∀ i loc st, I i loc st → st[n]? = some (.lst xs)) (step : ∀ i x loc st, xs[i]? = some x → I i loc st → W (f x loc st) fun r st1 => match r with | .nx loc' => I (i + 1) loc' st1 | .rt d => Q (.rt d) st1 | .ex n l => Q (.ex n l) st1)
    (fin : ∀ loc st, I xs.length loc st → Q (.nx loc) st) : ∀ k i loc st, i ≤ xs.length → xs.length < k + i → I i loc st → W (forN f (.at n) k i loc st) Q
  | 0, i, acc, st, h1, h2, h => by omega
  | k + 1, i, loc, st, h1, h2, h => by
    simp only [forN, nxt, keep i loc st h]
    cases e : xs[i]? with
    | none =>
      have : i = xs.length := by have := List.getElem?_eq_none_iff.mp e; omega
      subst this
      exact fin loc st h
    | some x =>
      have hi := (List.getElem?_eq_some_iff.mp e).1
      refine w_bnd ((step i x loc st e h).mono fun r st1 q => ?_)
      cases r with
      | nx loc' => exact w_forNA I keep step fin k (i + 1) loc' st1 hi (by omega) q
      | rt d => exact q
      | ex n l => exact q
theorem w_forA {m : Nat} {body : List S} (I : Nat → List D → Nat → Loc → Sto → Prop)
    (h : W (run g e loc st) fun d st1 => ∃ n xs, d = .ref n ∧ st1[n]? = some (.lst xs) ∧ I n xs 0 loc st1 ∧ (∀ i loc st, I n xs i loc st → st[n]? = some (.lst xs)) ∧ (∀ i x loc st, xs[i]? = some x → I n xs i loc st → W (execs g body (loc.set m (some x)) st) (Kf (I n xs (i + 1)) (Kn g ss Q))) ∧ ∀ loc st, I n xs xs.length loc st → W (execs g ss loc st) Q) :
    W (execs g (.for_ m false e body :: ss) loc st) Q := by
  refine w_scons ?_
  rw [exec]
  refine w_bnd (h.mono fun d st1 ⟨n, xs, hd, hn, h0, keep, step, fin⟩ => w_bnd ?_)
  subst hd
  show W (forS _ (.at n) loc st1) _
  have hL : lenS (.at n) st1 = xs.length := by simp only [lenS, hn]
  unfold forS
  rw [hL]
  refine w_forNA (I n xs) keep (fun i x loc st e q => (step i x loc st e q).mono fun r st1 q => ?_) fin _ 0 loc st1 (by omega) (by omega) h0
  cases r with
  | nx loc' => exact q
  | rt d => exact q
  | ex n l => exact q
end
theorem w_whil {g : Fns} {loc : Loc} {st : Sto} {Q : Fl → Sto → Prop} {ss body : List S} {c : Ex} (I : Nat → Loc → Sto → Prop) (m : Nat) (hm : m < 1000000000) (h0 : I m loc st) (turn : ∀ m loc st, I m loc st → W (run g c loc st) fun x st1 => ∃ b, x = .bl b ∧ (b = true → ∃ m', m = m' + 1 ∧ W (execs g body loc st1) (Kf (I m') (Kn g ss Q))) ∧ (b = false → W (execs g ss loc st1) Q)) :
    W (execs g (.whil c body :: ss) loc st) Q := by
  refine w_scons ?_
  rw [exec]
  refine w_whileN I (fun m loc st h => (turn m loc st h).mono fun x st1 ⟨b, e, q1, q2⟩ => ⟨b, e, fun hb => ?_, q2⟩) fuel m loc st hm h0
  obtain ⟨m', e, q⟩ := q1 hb
  refine ⟨m', e, q.mono fun r st2 q => ?_⟩
  cases r with
  | nx loc' => exact q
  | rt d => exact q
  | ex n l => exact q
theorem w_call {tab : List Fn} {k f : Nat} {fn : Fn} {ds : List D} {st : Sto} {Q : D → Sto → Prop} (hf : tab[f]? = some fn) (hl : ds.length = fn.ar) (h : W (execs (calls tab k) fn.body (ds.map some ++ List.replicate (fn.nl - ds.length) none) st) (Kr Q)) : Wv (calls tab (k + 1) f ds st) Q := by
  simp only [Wv, calls, hf, callB, if_pos hl]
  refine w_bnd (h.mono fun r st1 q => ?_)
  cases r with
  | nx loc' => exact q
  | rt d => exact q
  | ex n l => exact q.elim
section
variable {st : Sto} {Q : D → Sto → Prop} {i j : Int}
theorem w_add (h : Q (.int (i + j)) st) : W (binop .add (.int i) (.int j) st) Q := h
theorem w_sub (h : Q (.int (i - j)) st) : W (binop .sub (.int i) (.int j) st) Q := h
theorem w_mul (hb : (-18446744073709551616 < i ∧ i < 18446744073709551616) ∨ (-18446744073709551616 < j ∧ j < 18446744073709551616)) (h : Q (.int (i * j)) st) : W (binop .mul (.int i) (.int j) st) Q := by
  simp only [binop]; rw [if_pos (.inl (show (-big < i ∧ i < big) ∨ (-big < j ∧ j < big) from hb))]; exact h
theorem w_mod (hb : 0 < j) (h : Q (.int (i % j)) st) : W (binop .mod (.int i) (.int j) st) Q := by
  simp only [binop]; rw [if_pos (by omega), Int.fmod_eq_emod_of_nonneg i (by omega)]; exact h
theorem w_fdiv (hb : 0 < j ∧ j < 4611686018427387904) (h : Q (.int (i / j)) st) : W (binop .fdiv (.int i) (.int j) st) Q := by
  simp only [binop]
  rw [if_pos ⟨by omega, Nat.lt_of_lt_of_le (show j.natAbs < 4611686018427387904 by omega) (by decide)⟩, Int.fdiv_eq_ediv_of_nonneg i (by omega)]; exact h
theorem w_pow (hb : 0 ≤ j ∧ j ≤ 1000 ∧ i.natAbs < 1000) (h : Q (.int (i ^ j.toNat)) st) : W (binop .pow (.int i) (.int j) st) Q := by
  simp only [binop]; rw [if_pos hb]; exact h
theorem w_catL {m n : Nat} {as bs : List D} (hm : st[m]? = some (.lst as)) (hn : st[n]? = some (.lst bs)) (hb : as.length + bs.length ≤ 1000000) (h : Q (.ref st.length) (st ++ [.lst (as ++ bs)])) : W (binop .add (.ref m) (.ref n) st) Q := by
  simp only [binop, hm, hn]; rw [if_pos hb]; exact h
theorem w_eq {x y : D} {k : Bool} (e : eqD 60 st x y = some k) (h : Q (.bl k) st) : W (cmpop .Eq x y st) Q := by simp only [cmpop, e]; exact h
theorem w_ne {x y : D} {k : Bool} (e : eqD 60 st x y = some k) (h : Q (.bl (!k)) st) : W (cmpop .NotEq x y st) Q := by simp only [cmpop, e]; exact h
theorem w_eqI (h : Q (.bl (decide (i = j))) st) : W (cmpop .Eq (.int i) (.int j) st) Q := w_eq (k := decide (i = j)) (by simp [eqD, shape, eqV]; rfl) h
theorem w_neI (h : Q (.bl (!decide (i = j))) st) : W (cmpop .NotEq (.int i) (.int j) st) Q := w_ne (k := decide (i = j)) (by simp [eqD, shape, eqV]; rfl) h
theorem w_lt (h : Q (.bl (decide (i < j))) st) : W (cmpop .Lt (.int i) (.int j) st) Q := h
theorem w_gt (h : Q (.bl (decide (j < i))) st) : W (cmpop .Gt (.int i) (.int j) st) Q := h
theorem w_ixT {xs : List D} {d : D} (e : atI xs i = some d) (h : Q d st) : W (index (.tup xs) (.int i) st) Q := by simp only [index, seqOf, e]; exact h
theorem w_ixF {xs : List D} {d : D} (e : atI xs i = some d) (h : Q d st) : W (index (.fl xs) (.int i) st) Q := by simp only [index, seqOf, e]; exact h
theorem w_ixL {xs : List D} {n : Nat} {d : D} (hn : st[n]? = some (.lst xs)) (e : atI xs i = some d) (h : Q d st) : W (index (.ref n) (.int i) st) Q := by simp only [index, seqOf, hn, e]; exact h
theorem atI_in {α : Type} {xs : List α} (h0 : 0 ≤ i) (h1 : i < xs.length) : ∃ d, atI xs i = some d ∧ xs[i.toNat]? = some d := by
  have hi : i.toNat < xs.length := by omega
  refine ⟨xs[i.toNat], ?_, by simp [hi]⟩
  unfold atI ixN
  rw [if_pos h0, if_pos h1]
  show xs[i.toNat]? = _
  simp [hi]
theorem w_ixAny {xs : List D} {n : Nat} (hn : st[n]? = some (.lst xs)) (h0 : 0 ≤ i) (h1 : i < xs.length) (h : ∀ d, d ∈ xs → xs[i.toNat]? = some d → Q d st) : W (index (.ref n) (.int i) st) Q := by
  obtain ⟨d, e, e2⟩ := atI_in h0 h1
  exact w_ixL hn e (h d (List.mem_of_getElem? e2) e2)
theorem w_lenT {xs : List D} (h : Q (.int xs.length) st) : W (btin .len [.tup xs] st) Q := h
theorem w_lenF {xs : List D} (h : Q (.int xs.length) st) : W (btin .len [.fl xs] st) Q := h
theorem w_lenL {xs : List D} {n : Nat} (hn : st[n]? = some (.lst xs)) (h : Q (.int xs.length) st) : W (btin .len [.ref n] st) Q := by simp only [btin, seqOf, hn]; exact h
theorem w_listL {xs : List D} {n : Nat} (hn : st[n]? = some (.lst xs)) (h : Q (.ref st.length) (st ++ [.lst xs])) : W (btin .list [.ref n] st) Q := by simp only [btin, seqOf, hn]; exact h
theorem w_intB {b : Bool} (h : Q (.int (if b then 1 else 0)) st) : W (btin .int [.bl b] st) Q := h
theorem w_max (h : Q (.int (if j > i then j else i)) st) : W (btin .max [.int i, .int j] st) Q := h
theorem w_min (h : Q (.int (if j < i then j else i)) st) : W (btin .min [.int i, .int j] st) Q := h
theorem w_slL {xs : List D} {n : Nat} {lo hi : Option Int} (hn : st[n]? = some (.lst xs)) (h : Q (.ref st.length) (st ++ [.lst (cutD xs lo hi)])) : W (slice (.ref n) lo hi st) Q := by simp only [slice, seqOf, hn]; exact h
theorem w_setitem {n : Nat} {xs : List D} {v : D} {j : Nat} {Q : Unit → Sto → Prop} (hn : st[n]? = some (.lst xs)) (hj : ixN xs.length i = some j) (h : Q () (st.set n (.lst (xs.set j v)))) : W (setitem (.ref n) (.int i) v st) Q := by simp only [setitem, hn, hj]; exact h
theorem w_lstOk {n : Nat} {xs : List D} {Q : Unit → Sto → Prop} (hn : st[n]? = some (.lst xs)) (h : Q () st) : W (lstOk (.ref n) st) Q := by simp only [lstOk, hn]; exact h
theorem w_append {n : Nat} {xs : List D} {v : D} {Q : Unit → Sto → Prop} (hn : st[n]? = some (.lst xs)) (hl : xs.length < 1000000) (h : Q () (st.set n (.lst (xs ++ [v])))) : W (append (.ref n) v st) Q := by simp only [append, hn]; rw [if_pos hl]; exact h
end
theorem w_dtt {st : Sto} {n : Nat} {f : Bool} {kvs : List (List Key × D)} {Q : Nat × Bool × List (List Key × D) → Sto → Prop} (hn : st[n]? = some (.dtt f kvs)) (h : Q (n, f, kvs) st) : W (dtt? (.ref n) st) Q := by
  simp only [dtt?, hn]; exact h
theorem w_ofO {α : Type} {st : Sto} {o : Option α} {a : α} {Q : α → Sto → Prop} (e : o = some a) (h : Q a st) : W (ofO o st) Q := by subst e; exact h
section
variable {g : Fns} {loc : Loc} {st : Sto} {Q : D → Sto → Prop} {a b c : Ex}
theorem w_empT (h : Q (.ref st.length) (st ++ [.dtt false []])) : W (run g .empT loc st) Q := by rw [run]; exact h
theorem w_din {neg : Bool} (h : W (run g a loc st) fun x st1 => W (run g b loc st1) fun y st2 => ∃ n f kvs k, y = .ref n ∧ st2[n]? = some (.dtt f kvs) ∧ keyq? x = some k ∧ Q (.bl (if neg then !(Cb.look kvs k).isSome else (Cb.look kvs k).isSome)) st2) : W (run g (.din neg a b) loc st) Q := by
  rw [run]
  refine w_bnd (h.mono fun x st1 q => w_bnd (q.mono fun y st2 ⟨n, f, kvs, k, e, hn, hk, q⟩ => ?_))
  subst e
  exact w_bnd (w_dtt hn (w_bnd (w_ofO hk q)))
theorem w_dix (h : W (run g a loc st) fun x st1 => W (run g b loc st1) fun y st2 => ∃ n f kvs k d, x = .ref n ∧ st2[n]? = some (.dtt f kvs) ∧ key? y = some k ∧ Cb.look kvs k = some d ∧ Q d st2) : W (run g (.dix a b) loc st) Q := by
  rw [run]
  refine w_bnd (h.mono fun x st1 q => w_bnd (q.mono fun y st2 ⟨n, f, kvs, k, d, e, hn, hk, hd, q2⟩ => ?_))
  subst e
  exact w_bnd (w_dtt hn (w_bnd (w_ofO hk (w_ofO hd q2))))
theorem w_dget (h : W (run g a loc st) fun x st1 => ∃ n f kvs, x = .ref n ∧ st1[n]? = some (.dtt f kvs) ∧ W (run g b loc st1) fun y st2 => W (run g c loc st2) fun z st3 => ∃ f' kvs' k, st3[n]? = some (.dtt f' kvs') ∧ key? y = some k ∧ Q ((Cb.look kvs' k).getD z) st3) : W (run g (.dget a b c) loc st) Q := by
  rw [run]
  refine w_bnd (h.mono fun x st1 ⟨n, f, kvs, e, hn, q⟩ => ?_)
  subst e
  refine w_bnd (w_dtt hn (w_bnd (q.mono fun y st2 q => w_bnd (q.mono fun z st3 ⟨f', kvs', k, hn', hk, q⟩ => ?_))))
  exact w_bnd (w_dtt hn' (w_bnd (w_ofO hk q)))
theorem w_dpop (h : W (run g a loc st) fun x st1 => ∃ n f kvs, x = .ref n ∧ st1[n]? = some (.dtt f kvs) ∧ W (run g b loc st1) fun y st2 => ∃ kvs' k d, st2[n]? = some (.dtt false kvs') ∧ key? y = some k ∧ Cb.look kvs' k = some d ∧ Q d (st2.set n (.dtt false (Cb.drp kvs' k)))) : W (run g (.dpop a b) loc st) Q := by
  rw [run]
  refine w_bnd (h.mono fun x st1 ⟨n, f, kvs, e, hn, q⟩ => ?_)
  subst e
  refine w_bnd (w_dtt hn (w_bnd (q.mono fun y st2 ⟨kvs', k, d, hn', hk, hd, q⟩ => ?_)))
  exact w_bnd (w_dtt hn' (w_bnd (w_ofO hk (w_bnd (w_ofO hd q)))))
theorem w_dlen (h : W (run g a loc st) fun x st1 => ∃ n f kvs, x = .ref n ∧ st1[n]? = some (.dtt f kvs) ∧ Q (.int kvs.length) st1) : W (run g (.dlen a) loc st) Q := by
  rw [run]
  refine w_bnd (h.mono fun x st1 ⟨n, f, kvs, e, hn, q⟩ => ?_)
  subst e
  exact w_bnd (w_dtt hn q)
theorem w_lkeys (h : W (run g a loc st) fun x st1 => ∃ n f kvs, x = .ref n ∧ st1[n]? = some (.dtt f kvs) ∧ kvs.length ≤ 1000000 ∧ Q (.ref st1.length) (st1 ++ [.lst (kvs.map fun kv => keyD kv.1)])) : W (run g (.lkeys a) loc st) Q := by
  rw [run]
  refine w_bnd (h.mono fun x st1 ⟨n, f, kvs, e, hn, hl, q⟩ => ?_)
  subst e
  refine w_bnd (w_dtt hn ?_)
  dsimp only
  rw [if_pos hl]
  exact q
theorem w_dictL (h : W (run g a loc st) fun x st1 => ∃ n xs ps, x = .ref n ∧ st1[n]? = some (.lst xs) ∧ pairs? xs = some ps ∧ xs.length ≤ 1000 ∧ Q (.ref st1.length) (st1 ++ [.dtt false (fillT ps)])) : W (run g (.dictL a) loc st) Q := by
  rw [run]
  refine w_bnd (h.mono fun x st1 ⟨n, xs, ps, e, hn, hp, hl, q⟩ => ?_)
  subst e
  simp only [dictLD, hn, hp]
  rw [if_pos hl]
  exact q
theorem w_frz {n : Nat} {b : Bool} {kvs : List (List Key × D)} {Q : Unit → Sto → Prop} (hn : st[n]? = some (.dtt (!b) kvs)) (h : Q () (st.set n (.dtt b kvs))) : W (frzD n b st) Q := by
  simp only [frzD, hn]; rw [if_pos trivial]; exact h
theorem w_walkC {items : List Key × D → D} {f : D → M (Option D)} {n : Nat} {kvs : List (List Key × D)} (hn : st[n]? = some (.dtt false kvs))
    (h : W (compS f (.its (kvs.map items)) (st.set n (.dtt true kvs))) fun r st2 => ∃ kvs', st2[n]? = some (.dtt true kvs') ∧ Q r (st2.set n (.dtt false kvs'))) : W (walkC items f (.ref n) st) Q := by
  unfold walkC
  refine w_bnd (w_dtt hn (w_bnd (w_frz (b := true) hn (w_bnd (h.mono fun r st2 ⟨kvs', hn', q⟩ => ?_)))))
  exact w_bnd (w_frz (b := false) hn' q)
theorem w_compK (h : W (run g a loc st) fun d st1 => ∃ n kvs, d = .ref n ∧ st1[n]? = some (.dtt false kvs) ∧ W (compS (fun x => bnd (run g b (some x :: loc)) fun y => ret (some y)) (.its (kvs.map fun kv => keyD kv.1)) (st1.set n (.dtt true kvs))) fun r st2 => ∃ kvs', st2[n]? = some (.dtt true kvs') ∧ Q r (st2.set n (.dtt false kvs'))) : W (run g (.compK a b) loc st) Q := by
  rw [run]
  refine w_bnd (h.mono fun x st1 ⟨n, kvs, e, hn, q⟩ => ?_)
  subst e
  exact w_walkC hn q
theorem w_compI (h : W (run g a loc st) fun d st1 => ∃ n kvs, d = .ref n ∧ st1[n]? = some (.dtt false kvs) ∧ W (compS (pairF (fun x y => run g c (some x :: some y :: loc)) fun x y => run g b (some x :: some y :: loc)) (.its (kvs.map fun kv => .tup [keyD kv.1, kv.2])) (st1.set n (.dtt true kvs))) fun r st2 => ∃ kvs', st2[n]? = some (.dtt true kvs') ∧ Q r (st2.set n (.dtt false kvs'))) : W (run g (.compI a c b) loc st) Q := by
  rw [run]
  refine w_bnd (h.mono fun x st1 ⟨n, kvs, e, hn, q⟩ => ?_)
  subst e
  exact w_walkC hn q
theorem w_comp2 (h : W (run g a loc st) fun d st1 => ∃ n, d = .ref n ∧ W (compS (pairF (fun x y => run g c (some x :: some y :: loc)) fun x y => run g b (some x :: some y :: loc)) (.at n) st1) Q) : W (run g (.comp2 a c b) loc st) Q := by
  rw [run]
  refine w_bnd (h.mono fun x st1 ⟨n, e, q⟩ => ?_)
  subst e
  exact w_bnd q
theorem w_pairF {t e : D → D → M D} {x y : D} {Q : Option D → Sto → Prop} (h : W (t x y st) fun z st1 => ∃ k, z = .bl k ∧ (k = true → W (e x y st1) fun y st2 => Q (some y) st2) ∧ (k = false → Q none st1)) : W (pairF t e (.tup [x, y]) st) Q := by
  unfold pairF
  refine w_bnd (h.mono fun z st1 ⟨k, e, q1, q2⟩ => ?_)
  subst e
  cases k with
  | true => exact w_bnd (w_bnd (q1 rfl))
  | false => exact w_bnd (q2 rfl)
theorem w_lpop (h : W (run g a loc st) fun x st1 => ∃ n xs, x = .ref n ∧ st1[n]? = some (.lst xs) ∧ W (run g b loc st1) fun y st2 => ∃ xs' i d, y = .int i ∧ st2[n]? = some (.lst xs') ∧ 0 ≤ i ∧ xs'[i.toNat]? = some d ∧ Q d (st2.set n (.lst (xs'.eraseIdx i.toNat)))) : W (run g (.lpop a b) loc st) Q := by
  rw [run]
  refine w_bnd (h.mono fun x st1 ⟨n, xs, e, hn, q⟩ => ?_)
  subst e
  refine w_bnd (w_lstOk hn (w_bnd (q.mono fun y st2 ⟨xs', i, d, e, hn', h0, hd, q⟩ => ?_)))
  subst e
  simp only [lpopD, hn']
  rw [if_pos h0]
  simp only [hd]
  exact q
theorem w_cnt (h : W (run g a loc st) fun x st1 => ∃ n xs, x = .ref n ∧ st1[n]? = some (.lst xs) ∧ W (run g b loc st1) fun y st2 => ∃ xs' m, st2[n]? = some (.lst xs') ∧ cntEq st2 y xs' = some m ∧ xs'.length ≤ 1000000 ∧ Q (.int m) st2) : W (run g (.cnt a b) loc st) Q := by
  rw [run]
  refine w_bnd (h.mono fun x st1 ⟨n, xs, e, hn, q⟩ => ?_)
  subst e
  refine w_bnd (w_lstOk hn (w_bnd (q.mono fun y st2 ⟨xs', m, hn', hc, hl, q⟩ => ?_)))
  simp only [cntD, hn', hc]
  rw [if_pos hl]
  exact q
end
section
variable {g : Fns} {loc : Loc} {st : Sto} {Q : Fl → Sto → Prop} {ss body : List S} {e o i : Ex}
theorem w_dsetD {n : Nat} {kvs : List (List Key × D)} {y v : D} {k : List Key} {Q : Unit → Sto → Prop} (hn : st[n]? = some (.dtt false kvs)) (hk : key? y = some k) (hl : kvs.length < 1000000) (h : Q () (st.set n (.dtt false (Cb.put kvs k v)))) : W (dsetD (.ref n) y v st) Q := by
  unfold dsetD
  refine w_bnd (w_dtt hn (w_bnd (w_ofO hk ?_)))
  dsimp only
  rw [if_neg (by simp; omega)]
  exact h
theorem w_dset (h : W (run g e loc st) fun d st1 => W (run g o loc st1) fun x st2 => W (run g i loc st2) fun y st3 => ∃ n kvs k, x = .ref n ∧ st3[n]? = some (.dtt false kvs) ∧ key? y = some k ∧ kvs.length < 1000000 ∧ W (execs g ss loc (st3.set n (.dtt false (Cb.put kvs k d)))) Q) : W (execs g (.dset o i e :: ss) loc st) Q :=
  w_scons (by
    rw [exec]
    refine w_bnd (h.mono fun d st1 q => w_bnd (q.mono fun x st2 q => w_bnd (q.mono fun y st3 ⟨n, kvs, k, e, hn, hk, hl, q2⟩ => ?_)))
    subst e
    exact w_bnd (w_dsetD hn hk hl q2))
theorem w_daug {neg : Bool} (h : W (run g o loc st) fun x st1 => W (run g i loc st1) fun y st2 => ∃ n f kvs k v, x = .ref n ∧ st2[n]? = some (.dtt f kvs) ∧ key? y = some k ∧ Cb.look kvs k = some (.int v) ∧ W (run g e loc st2) fun z st3 => ∃ kvs' w, z = .int w ∧ st3[n]? = some (.dtt false kvs') ∧ kvs'.length < 1000000 ∧ W (execs g ss loc (st3.set n (.dtt false (Cb.put kvs' k (.int (if neg then v - w else v + w)))))) Q) : W (execs g (.daug neg o i e :: ss) loc st) Q :=
  w_scons (by
    rw [exec]
    refine w_bnd (h.mono fun x st1 q => w_bnd (q.mono fun y st2 ⟨n, f, kvs, k, v, e, hn, hk, hv, q⟩ => ?_))
    subst e
    refine w_bnd (W.mono (w_bnd (w_dtt hn (w_bnd (w_ofO hk (w_ofO hv ⟨rfl, rfl⟩))))) fun y' st' (z : y' = D.int v ∧ st' = st2) => ?_)
    obtain ⟨rfl, rfl⟩ := z
    refine w_bnd (w_bnd (q.mono fun z st3 ⟨kvs', w, e, hn', hl, q⟩ => ?_))
    subst e
    exact w_bnd (w_bnd (w_dsetD hn' hk hl q)))
theorem w_forS {f : D → Loc → M Fl} {xs : List D} (I : Nat → Loc → Sto → Prop) (h0 : I 0 loc st) (step : ∀ i x loc st, xs[i]? = some x → I i loc st → W (f x loc st) fun r st1 => match r with | .nx loc' => I (i + 1) loc' st1 | .rt d => Q (.rt d) st1 | .ex n l => Q (.ex n l) st1)
    (fin : ∀ loc st, I xs.length loc st → Q (.nx loc) st) : W (forS f (.its xs) loc st) Q := by
  unfold forS
  exact w_forN I step fin _ 0 loc st (by omega) (by show xs.length < xs.length + 1 + 0; omega) h0
theorem w_walkF {items : List Key × D → D} {f : D → Loc → M Fl} {n : Nat} {kvs : List (List Key × D)} (hn : st[n]? = some (.dtt false kvs)) (I : Nat → Loc → Sto → Prop) (h0 : I 0 loc (st.set n (.dtt true kvs)))
    (step : ∀ i x loc st, kvs[i]? = some x → I i loc st → W (f (items x) loc st) fun r st1 => match r with | .nx loc' => I (i + 1) loc' st1 | _ => False)
    (fin : ∀ loc st, I kvs.length loc st → ∃ kvs', st[n]? = some (.dtt true kvs') ∧ Q (.nx loc) (st.set n (.dtt false kvs'))) : W (walkF items f (.ref n) loc st) Q := by
  unfold walkF
  refine w_bnd (w_dtt hn (w_bnd (w_frz (b := true) hn (w_bnd ?_))))
  refine W.mono (w_forS (Q := fun r st => match r with | .nx loc => I kvs.length loc st | _ => False) (fun i loc st => I i loc st) h0 (fun i x loc st hx hi => ?_) (fun loc st h => by rw [List.length_map] at h; exact h)) fun r st2 q => ?_
  · rw [List.getElem?_map] at hx
    cases hk : kvs[i]? with
    | none => rw [hk] at hx; cases hx
    | some y =>
      rw [hk] at hx
      cases hx
      refine (step i y loc st hk hi).mono fun r st1 q => ?_
      cases r with
      | nx loc' => exact q
      | rt d => exact q.elim
      | ex n l => exact q.elim
  · cases r with
    | nx loc' =>
      obtain ⟨kvs', hn', q'⟩ := fin loc' st2 q
      exact w_bnd (w_frz (b := false) hn' q')
    | rt d => exact q.elim
    | ex n l => exact q.elim
theorem w_forK {j : Nat} (h : W (run g e loc st) fun d st1 => ∃ n, d = .ref n ∧ W (walkF (fun kv => keyD kv.1) (fun x loc' => execs g body (loc'.set j (some x))) (.ref n) loc st1) (Kn g ss Q)) : W (execs g (.forK j e body :: ss) loc st) Q :=
  w_scons (by rw [exec]; exact w_bnd (h.mono fun x st1 ⟨n, e, q⟩ => by subst e; exact q))
theorem w_forV {j : Nat} (h : W (run g e loc st) fun d st1 => ∃ n, d = .ref n ∧ W (walkF (fun kv => kv.2) (fun x loc' => execs g body (loc'.set j (some x))) (.ref n) loc st1) (Kn g ss Q)) : W (execs g (.forV j e body :: ss) loc st) Q :=
  w_scons (by rw [exec]; exact w_bnd (h.mono fun x st1 ⟨n, e, q⟩ => by subst e; exact q))
end
end Ev
set_option Elab.async false
set_option linter.all false
set_option maxRecDepth 100000
set_option maxHeartbeats 4000000
namespace Ev
open PySem L2
noncomputable def Gr (st st' : Sto) : Prop := ∃ t, st' = st ++ t
theorem Gr.refl (st : Sto) : Gr st st := ⟨[], by simp⟩
theorem Gr.trans {a b c : Sto} (h : Gr a b) (k : Gr b c) : Gr a c := by
  obtain ⟨t, rfl⟩ := h
  obtain ⟨u, rfl⟩ := k
  exact ⟨t ++ u, by simp⟩
theorem Gr.one (st : Sto) (o : O) : Gr st (st ++ [o]) := ⟨[o], rfl⟩
theorem Gr.more {a b : Sto} (h : Gr a b) (o : O) : Gr a (b ++ [o]) := h.trans (.one b o)
theorem Gr.le {a b : Sto} (h : Gr a b) : a.length ≤ b.length := by obtain ⟨t, rfl⟩ := h; simp
theorem Gr.at {a b : Sto} (h : Gr a b) {i : Nat} {o : O} (e : a[i]? = some o) : b[i]? = some o := by
  obtain ⟨t, rfl⟩ := h
  have := (List.getElem?_eq_some_iff.mp e).1
  rw [List.getElem?_append_left this]; exact e
theorem at_new {st : Sto} {o : O} : (st ++ [o])[st.length]? = some o := by simp
theorem at_old {st : Sto} {o : O} {t : Sto} {i : Nat} (e : st[i]? = some o) : (st ++ t)[i]? = some o := by
  have := (List.getElem?_eq_some_iff.mp e).1
  rw [List.getElem?_append_left this]; exact e
noncomputable def Bx (st : Sto) (n : Nat) : Prop := ∃ a b c, st[n]? = some (.lst [.int a, .int b, .int c])
structure Stp (n : Nat) (st st' : Sto) : Prop where
  le : st.length ≤ st'.length
  same : ∀ i, i < st.length → i ≠ n → st'[i]? = st[i]?
  box : Bx st' n
theorem source_rng {j : Int} (h : -1000000 ≤ j ∧ j ≤ 1000000) : source true (.int j) = some (.its (rangeD j.toNat)) := by simp only [source]; rw [if_pos h]
theorem rangeD_len (n : Nat) : (rangeD n).length = n := by simp [rangeD]
theorem set_at {st : Sto} {n : Nat} {o : O} (h : n < st.length) : (st.set n o)[n]? = some o := by rw [List.getElem?_set_self h]
noncomputable def plainP : D → Bool
  | .int _ => true
  | .bl _ => true
  | .str _ => true
  | .non => true
  | _ => false
theorem eqD_plain {st : Sto} {n : Nat} {d : D} (h : plainP d = true) : eqD (n + 1) st d d = some true := by
  cases d <;> simp [plainP] at h <;> simp [eqD, shape, eqV]
theorem allEq_same {f : D → D → Option Bool} : ∀ {xs : List D}, (∀ x ∈ xs, f x x = some true) → allEq f xs xs = some true
  | [], _ => rfl
  | x :: xs, h => by
    unfold allEq
    rw [h x (by simp), allEq_same fun y hy => h y (by simp [hy])]
    rfl
theorem set_one {st : Sto} {a b : O} : (st ++ [a]).set st.length b = st ++ [b] := by simp
section
variable {Q : Nat → Sto → Prop} {g : Fns} {st : Sto} {x : Str} {j : Nat} {ds : List D}
end
section
variable {Q : Unit → Sto → Prop} {st : Sto} {cs : List Str} {f x : Str} {v : D}
end
end Ev
set_option Elab.async false
set_option linter.all false
set_option maxRecDepth 100000
set_option maxHeartbeats 4000000
namespace Ev
open PySem L2
local macro_rules | `(tactic| walk_at "ev1") => `(tactic| with_reducible first
  | refine w_c ?_ | (refine w_v (by with_unfolding_all rfl) ?_) | refine w_tup ?_ | refine w_lst ?_ | refine w_emp ?_ | refine w_bin ?_ | refine w_neg ?_ | refine w_not ?_ | refine w_and ?_ | refine w_or ?_ | refine w_cmp ?_ | refine w_chain ?_ | refine w_ix ?_ | refine w_slTo ?_ | refine w_slFrom ?_
  | refine w_empT ?_ | refine w_din ?_ | refine w_dix ?_ | refine w_dget ?_ | refine w_dpop ?_ | refine w_dlen ?_ | refine w_lkeys ?_ | refine w_dictL ?_ | refine w_compK ?_ | refine w_compI ?_ | refine w_comp2 ?_ | refine w_lpop ?_ | refine w_cnt ?_ | refine w_dset ?_ | refine w_daug ?_ | refine w_forK ?_ | refine w_forV ?_ | refine w_fn ?_ | refine w_bt ?_ | refine w_isi ?_ | refine w_ife ?_ | refine w_comp ?_ | refine w_compIf ?_ | refine w_anil ?_ | refine w_acons ?_ | refine w_elt ?_ | refine w_eltIf ?_
  | refine w_snil ?_ | refine w_set ?_ | refine w_setix ?_ | refine w_ret ?_ | refine w_ret0 ?_ | refine w_ex ?_ | refine w_app ?_ | refine w_pass ?_ | refine w_if ?_ | refine kn_nx ?_ | refine kn_rt ?_ | refine kr_nx ?_ | refine kr_rt ?_ | refine kf_nx ?_ | refine kf_rt ?_
  | refine w_add ?_ | refine w_sub ?_ | refine w_eqI ?_ | refine w_neI ?_ | refine w_lt ?_ | refine w_le ?_ | refine w_gt ?_ | refine w_ge ?_ | refine w_lenT ?_ | refine w_lenF ?_ | refine w_listT ?_ | refine w_tupleT ?_ | refine w_intB ?_ | refine w_max ?_ | refine w_min ?_ | refine w_abs ?_
  | (refine w_mul (by omega) ?_) | (refine w_mod (by omega) ?_) | (refine w_fdiv (by omega) ?_) | (refine w_pow (by decide) ?_) | (refine w_ixT (by with_unfolding_all rfl) ?_))
local macro_rules | `(tactic| walk_at "ev") => `(tactic| repeat (walk_at "ev1"))
namespace K65
noncomputable abbrev i_moves_in_row : Nat := 0
noncomputable def f_moves_in_row : Fn := ⟨2, 8, [.set 2 (.dictL (.comp2 (.v 0) (.cmp .NotEq (.v 0) (.v 1)) (.tup [.v 0, .v 1]))),
    .set 3 (.dictL (.compK (.v 2) (.tup [.v 0, .c (.int 0)]))),
    .forV 4 (.v 2) [.ite (.din false (.v 4) (.v 3)) [.daug false (.v 3) (.v 4) (.c (.int 1))] []],
    .set 5 (.lst []),
    .set 6 (.compI (.v 3) (.cmp .Eq (.v 1) (.c (.int 0))) (.v 0)),
    .whil (.cmp .Gt (.bt .len [.v 6]) (.c (.int 0))) [.set 7 (.pop (.v 6) false),
    .set 4 (.dpop (.v 2) (.v 7)),
    .app (.v 5) (.tup [.c (.str "move"), .v 7, .v 4]),
    .ite (.din false (.v 4) (.v 3)) [.daug true (.v 3) (.v 4) (.c (.int 1)),
    .ite (.cmp .Eq (.dix (.v 3) (.v 4)) (.c (.int 0))) [.app (.v 6) (.v 4)] []] []],
    .whil (.cmp .Gt (.dlen (.v 2)) (.c (.int 0))) [.ext (.v 5) (.fn 1 [.v 2, .v 1])],
    .ret (.v 5)]⟩
noncomputable abbrev i_ring_moves : Nat := 1
noncomputable def f_ring_moves : Fn := ⟨2, 5, [.set 2 (.ix (.lkeys (.v 0)) (.c (.int 0))),
    .set 3 (.lst [.tup [.c (.str "move"), .v 1, .v 2]]),
    .set 4 (.v 2),
    .whil (.cmp .NotEq (.dix (.v 0) (.v 4)) (.v 2)) [.app (.v 3) (.tup [.c (.str "move"), .v 4, .dix (.v 0) (.v 4)]),
    .set 4 (.dpop (.v 0) (.v 4))],
    .ex (.dpop (.v 0) (.v 4)),
    .app (.v 3) (.tup [.c (.str "move"), .v 4, .v 1]),
    .ret (.v 3)]⟩
noncomputable abbrev i__law_cell_at : Nat := 2
noncomputable def f__law_cell_at : Fn := ⟨2, 2, [.ite (.cmp .Lt (.v 1) (.bt .len [.v 0])) [.ret (.ix (.v 0) (.v 1))] [],
    .ret (.c (.int 0))]⟩
noncomputable abbrev i__law_mixed : Nat := 3
noncomputable def f__law_mixed : Fn := ⟨2, 3, [.set 2 (.bin .mod (.bin .add (.bin .add (.bin .mul (.bin .mod (.v 0) (.c (.int 2147483629))) (.c (.int 48271))) (.bin .mul (.v 1) (.c (.int 7919)))) (.c (.int 104729))) (.c (.int 2147483629))),
    .set 2 (.bin .mod (.bin .add (.bin .add (.bin .mul (.bin .mod (.bin .mul (.v 2) (.v 2)) (.c (.int 2147483629))) (.c (.int 16807))) (.bin .mul (.v 1) (.c (.int 104729)))) (.c (.int 11))) (.c (.int 2147483587))),
    .ret (.bin .mod (.bin .mul (.v 2) (.v 2)) (.c (.int 2147483587)))]⟩
noncomputable abbrev i__law_numbers : Nat := 4
noncomputable def f__law_numbers : Fn := ⟨2, 6, [.set 2 (.lst []),
    .for_ 3 false (.v 0) [.set 4 (.v 3),
    .for_ 5 true (.c (.int 40)) [.ite (.cmp .Lt (.v 3) (.bin .pow (.c (.int 10)) (.c (.int 18)))) [.app (.v 2) (.bin .mod (.fn 3 [.v 3, .bt .len [.v 2]]) (.c (.int 1009)))] [.ite (.cmp .Gt (.v 4) (.c (.int 0))) [.app (.v 2) (.bin .mod (.v 4) (.c (.int 1009))),
    .set 4 (.bin .fdiv (.v 4) (.c (.int 1009)))] []]]],
    .whil (.cmp .Lt (.bt .len [.v 2]) (.v 1)) [.app (.v 2) (.bin .mod (.fn 3 [.bt .len [.v 2], .v 1]) (.c (.int 1009)))],
    .ret (.sl (.v 2) (.v 1) (.v 1) false true)]⟩
noncomputable abbrev i__law_take : Nat := 5
noncomputable def f__law_take : Fn := ⟨1, 1, [.ite (.cmp .Eq (.v 0) (.lst [])) [.ret (.c (.int 0))] [],
    .ret (.pop (.v 0) true)]⟩
noncomputable abbrev i__law_pairs : Nat := 6
noncomputable def f__law_pairs : Fn := ⟨1, 10, [.set 1 (.bin .add (.comp true (.c (.int 4)) (.tup [.c (.str "reg"), .v 0])) (.comp true (.c (.int 6)) (.tup [.c (.str "frame"), .v 0]))),
    .set 2 (.bt .list [.v 1]),
    .set 3 (.lst []),
    .for_ 4 true (.bin .mod (.fn 5 [.v 0]) (.c (.int 9))) [.set 5 (.lpop (.v 1) (.bin .mod (.fn 5 [.v 0]) (.bt .len [.v 1]))),
    .set 6 (.fn 5 [.v 0]),
    .set 7 (.ix (.v 2) (.bin .mod (.bin .fdiv (.v 6) (.c (.int 8))) (.c (.int 10)))),
    .ite (.cmp .Eq (.bin .mod (.v 6) (.c (.int 8))) (.c (.int 0))) [.set 7 (.ix (.lst [.tup [.c (.str "num"), .bin .sub (.v 6) (.c (.int 500))], .tup [.c (.str "truth"), .cmp .Eq (.bin .mod (.bin .fdiv (.v 6) (.c (.int 8))) (.c (.int 2))) (.c (.int 1))], .tup [.c (.str "num"), .c (.int 0)]]) (.bin .mod (.bin .fdiv (.v 6) (.c (.int 16))) (.c (.int 3))))] [.ite (.and (.cmp .Lt (.bin .mod (.v 6) (.c (.int 8))) (.c (.int 5))) (.cmp .NotEq (.v 3) (.lst []))) [.set 7 (.ix (.ix (.v 3) (.bin .mod (.bin .fdiv (.v 6) (.c (.int 8))) (.bt .len [.v 3]))) (.c (.int 0)))] []],
    .app (.v 3) (.tup [.v 5, .v 7])],
    .for_ 4 true (.bin .mod (.fn 5 [.v 0]) (.c (.int 4))) [.ite (.cmp .Gt (.bt .len [.v 3]) (.c (.int 1))) [.set 8 (.bin .mod (.fn 5 [.v 0]) (.bt .len [.v 3])),
    .set 9 (.bin .mod (.fn 5 [.v 0]) (.bt .len [.v 3])),
    .setix (.v 3) (.v 8) (.tup [.ix (.ix (.v 3) (.v 8)) (.c (.int 0)), .ix (.ix (.v 3) (.v 9)) (.c (.int 0))]),
    .setix (.v 3) (.v 9) (.tup [.ix (.ix (.v 3) (.v 9)) (.c (.int 0)), .ix (.ix (.v 3) (.v 8)) (.c (.int 0))])] []],
    .ret (.v 3)]⟩
noncomputable abbrev i__law_at : Nat := 7
noncomputable def f__law_at : Fn := ⟨2, 2, [.ite (.or (.cmp .Eq (.ix (.v 1) (.c (.int 0))) (.c (.str "reg"))) (.cmp .Eq (.ix (.v 1) (.c (.int 0))) (.c (.str "frame")))) [.ret (.dget (.v 0) (.v 1) (.tup [.c (.str "was"), .v 1]))] [],
    .ret (.tup [.c (.str "constant"), .v 1])]⟩
noncomputable abbrev i__law_rings : Nat := 8
noncomputable def f__law_rings : Fn := ⟨1, 7, [.set 1 (.dictL (.comp2 (.v 0) (.cmp .NotEq (.v 0) (.v 1)) (.tup [.v 0, .v 1]))),
    .set 2 .empT,
    .set 3 (.c (.int 0)),
    .forK 4 (.v 1) [.set 5 (.lst []),
    .set 6 (.v 4),
    .whil (.and (.din false (.v 6) (.v 1)) (.din true (.v 6) (.v 2))) [.dset (.v 2) (.v 6) (.c (.bl true)),
    .app (.v 5) (.v 6),
    .set 6 (.dix (.v 1) (.v 6))],
    .ite (.cmp .In (.v 6) (.v 5)) [.set 3 (.bin .add (.v 3) (.c (.int 1)))] []],
    .ret (.v 3)]⟩
noncomputable abbrev i__law_right : Nat := 9
noncomputable def f__law_right : Fn := ⟨2, 12, [.set 2 (.bt .list [.v 0]),
    .set 3 (.fn 0 [.v 2, .v 1]),
    .ite (.or (.not (.isi (.v 3) .list)) (.cmp .NotEq (.v 2) (.v 0))) [.ret (.c (.bl false))] [],
    .set 4 .empT,
    .set 5 (.lst []),
    .for_ 6 false (.v 3) [.ite (.or (.not (.isi (.v 6) .tuple)) (.or (.cmp .NotEq (.bt .len [.v 6]) (.c (.int 3))) (.cmp .NotEq (.ix (.v 6) (.c (.int 0))) (.c (.str "move"))))) [.ret (.c (.bl false))] [],
    .dset (.v 4) (.ix (.v 6) (.c (.int 1))) (.fn 7 [.v 4, .ix (.v 6) (.c (.int 2))]),
    .app (.v 5) (.ix (.v 6) (.c (.int 1)))],
    .forU [7, 8] (.v 0) [.ite (.or (.cmp .NotEq (.fn 7 [.v 4, .v 7]) (.fn 7 [.empT, .v 8])) (.cmp .NotEq (.cnt (.v 5) (.v 7)) (.bt .int [.cmp .NotEq (.v 7) (.v 8)]))) [.ret (.c (.bl false))] []],
    .set 9 (.fn 8 [.v 0]),
    .set 10 (.comp2 (.v 0) (.cmp .NotEq (.v 0) (.v 1)) (.v 0)),
    .ite (.or (.cmp .NotEq (.bt .len [.v 3]) (.bin .add (.bt .len [.v 10]) (.v 9))) (.cmp .NotEq (.cnt (.v 5) (.v 1)) (.v 9))) [.ret (.c (.bl false))] [],
    .set 11 (.fn 0 [.v 0, .v 1]),
    .clr (.v 3),
    .ret (.cmp .Eq (.bt .len [.v 11]) (.bin .add (.bt .len [.v 10]) (.v 9)))]⟩
noncomputable abbrev i_law : Nat := 10
noncomputable def f_law : Fn := ⟨1, 4, [.set 1 (.tup [.c (.str "reg"), .bin .add (.c (.int 4)) (.bin .mod (.fn 2 [.v 0, .c (.int 1)]) (.c (.int 4)))]),
    .for_ 2 true (.bt .max [.c (.int 1), .bt .min [.bt .len [.v 0], .c (.int 20)]]) [.set 3 (.fn 4 [.lst [.fn 2 [.v 0, .v 2], .fn 2 [.v 0, .bin .add (.v 2) (.c (.int 1))]], .c (.int 60)]),
    .ite (.not (.fn 9 [.fn 6 [.v 3], .v 1])) [.ret (.c (.bl false))] []],
    .ret (.c (.bl true))]⟩
noncomputable def tab : List Fn := [f_moves_in_row, f_ring_moves, f__law_cell_at, f__law_mixed, f__law_numbers, f__law_take, f__law_pairs, f__law_at, f__law_rings, f__law_right, f_law]
local macro_rules | `(tactic| walk_at "call0") => `(tactic| (refine w_call rfl rfl ?_; dsimp only [f_moves_in_row, f_ring_moves, f__law_cell_at, f__law_mixed, f__law_numbers, f__law_take, f__law_pairs, f__law_at, f__law_rings, f__law_right, f_law, List.map, List.length, List.replicate, List.append, HAppend.hAppend, Append.append]))
local macro_rules | `(tactic| walk_at "call") => `(tactic| (walk_at "call0"; walk_at "ev"))
noncomputable abbrev P := List Key
noncomputable def pk2 (s : Str) (i : Int) : P := [.inr s, .inl i]
theorem pk2_inj {s t : Str} {i j : Int} : pk2 s i = pk2 t j ↔ s = t ∧ i = j := by
  constructor
  · intro h
    injection h with h1 h2
    injection h1 with h1
    injection h2 with h2 _
    injection h2 with h2
    exact ⟨h1, h2⟩
  · rintro ⟨rfl, rfl⟩; rfl
noncomputable def ok (k : P) : Prop := ∃ (s : Str) (n : Int), (s = "reg" ∨ s = "frame") ∧ k = pk2 s n
noncomputable def isPl : D → Bool
  | .tup (.str s :: _) => s == "reg" || s == "frame"
  | _ => false
theorem keyq_kD (k : Key) : key1q? (kD k) = some k := by cases k <;> rfl
theorem key_kD (k : Key) : key1? (kD k) = some k := by cases k <;> rfl
theorem keysBy_map {f : D → Option Key} (h : ∀ k, f (kD k) = some k) : ∀ ks : List Key, keysBy f (ks.map kD) = some ks
  | [] => rfl
  | k :: ks => by rw [List.map_cons, keysBy, h, keysBy_map h ks]
theorem key_keyD (k : P) : key? (keyD k) = some k := keysBy_map key_kD k
theorem keyq_keyD (k : P) : keyq? (keyD k) = some k := keysBy_map keyq_kD k
theorem isPl_ok {s : Str} (h : s = "reg" ∨ s = "frame") : (s == ("reg" : Str) || s == ("frame" : Str)) = true := by
  rcases h with h | h <;> subst h <;> decide +kernel
inductive VS : D → Prop where
  | pl {k : P} (h : ok k) : VS (keyD k)
  | num (i : Int) : VS (.tup [.str "num", .int i])
  | tr (b : Bool) : VS (.tup [.str "truth", .bl b])
noncomputable def sy : Cb.Sys P D D where
  qk := fun d => (keyq? d).getD []
  isP := isPl
  kd := keyD
  was := fun k => .tup [.str "was", keyD k]
  cst := fun d => .tup [.str "constant", d]
  ok := ok
  vs := VS
  qkd := fun k => by rw [keyq_keyD]; rfl
  ikd := fun k h => by
    obtain ⟨s, n, h, rfl⟩ := h
    exact isPl_ok h
  vkd := fun k h => .pl h
theorem qk_keyD (k : P) : sy.qk (keyD k) = k := sy.qkd k
theorem VS.q {d : D} (h : VS d) : keyq? d = some (sy.qk d) := by
  cases h with
  | pl h => rw [keyq_keyD, qk_keyD]
  | num i => rfl
  | tr b => rfl
theorem ok_ne {s : Str} {i : Int} (h : (s == ("reg" : Str) || s == ("frame" : Str)) = false) : ¬ ok (pk2 s i) := by
  rintro ⟨t, n, ht, e⟩
  obtain ⟨rfl, _⟩ := pk2_inj.mp e
  rw [isPl_ok ht] at h; cases h
theorem VS.cn {d : D} (h : VS d) (hd : isPl d = false) : ¬ ok (sy.qk d) := by
  cases h with
  | pl h =>
    have : isPl (keyD _) = true := sy.ikd _ h
    rw [this] at hd; cases hd
  | num i => exact ok_ne (s := "num") (i := i) (by decide +kernel)
  | tr b => exact ok_ne (s := "truth") (i := if b then 1 else 0) (by decide +kernel)
theorem VS.of_pl {d : D} (h : VS d) (hd : isPl d = true) : d = keyD (sy.qk d) ∧ ok (sy.qk d) := by
  cases h with
  | pl h => rw [qk_keyD]; exact ⟨rfl, h⟩
  | num i => exact absurd (show ((("num" : Str) == "reg") || (("num" : Str) == "frame")) = true from hd) (by decide +kernel)
  | tr i => exact absurd (show ((("truth" : Str) == "reg") || (("truth" : Str) == "frame")) = true from hd) (by decide +kernel)
theorem eqD_tt {n : Nat} {st : Sto} {xs ys : List D} : eqD (n + 1) st (.tup xs) (.tup ys) = allEq (eqD n st) xs ys := rfl
theorem eqD_ii {n : Nat} {st : Sto} {a b : Int} : eqD (n + 1) st (.int a) (.int b) = some (decide (a = b)) := by simp [eqD, shape, eqV]; rfl
theorem eqD_ss {n : Nat} {st : Sto} {a b : Str} : eqD (n + 1) st (.str a) (.str b) = some (a == b) := by simp [eqD, shape, eqV]
theorem eqD_ib {n : Nat} {st : Sto} {a : Int} {b : Bool} : ∃ c, eqD (n + 1) st (.int a) (.bl b) = some c := ⟨_, rfl⟩
theorem beq_str (a b : Str) : (a == b) = decide (a = b) := by
  by_cases h : a = b
  · subst h; simp
  · rw [decide_eq_false h]; exact beq_eq_false_iff_ne.mpr h
theorem dec_pk2 (s t : Str) (i j : Int) : decide (pk2 t j = pk2 s i) = (decide (s = t) && decide (i = j)) := by
  rw [Bool.eq_iff_iff]
  simp only [decide_eq_true_eq, Bool.and_eq_true, pk2_inj]
  exact ⟨fun h => ⟨h.1.symm, h.2.symm⟩, fun h => ⟨h.1.symm, h.2.symm⟩⟩
theorem neq_word {s t : Str} (h : s = "reg" ∨ s = "frame") (ht : (t == ("reg" : Str) || t == ("frame" : Str)) = false) : s ≠ t := fun e => by
  subst e; rw [isPl_ok h] at ht; cases ht
theorem eq_ps {n : Nat} {st : Sto} {p : P} {d : D} (hp : ok p) (hd : VS d) : eqD (n + 2) st (keyD p) d = some (decide (sy.qk d = p)) := by
  obtain ⟨s, i, hs, rfl⟩ := hp
  cases hd with
  | pl h =>
    obtain ⟨t, j, ht, rfl⟩ := h
    rw [qk_keyD]
    show eqD (n + 2) st (.tup [.str s, .int i]) (.tup [.str t, .int j]) = _
    rw [eqD_tt, dec_pk2]
    simp only [allEq, eqD_ss, eqD_ii, Bool.and_true, beq_str]
  | num j =>
    show eqD (n + 2) st (.tup [.str s, .int i]) (.tup [.str "num", .int j]) = some (decide (pk2 "num" j = pk2 s i))
    rw [eqD_tt, dec_pk2]
    simp only [allEq, eqD_ss, eqD_ii, Bool.and_true, beq_str]
  | tr b =>
    show eqD (n + 2) st (.tup [.str s, .int i]) (.tup [.str "truth", .bl b]) = some (decide (pk2 "truth" (if b then 1 else 0) = pk2 s i))
    rw [eqD_tt, dec_pk2]
    obtain ⟨c, hc⟩ := eqD_ib (n := n) (st := st) (a := i) (b := b)
    have e1 := neq_word (t := "truth") hs (by decide +kernel)
    simp only [allEq, eqD_ss, hc, Bool.and_true, beq_str, decide_eq_false e1, Bool.false_and]
section
variable {g : Fns} {o e : Ex} {loc : Loc} {st : Sto} {ss : List S} {Q : Fl → Sto → Prop}
theorem w_extL (h : W (run g o loc st) fun x st1 => ∃ n zs, x = .ref n ∧ st1[n]? = some (.lst zs) ∧ W (run g e loc st1) fun d st2 => ∃ m ys xs, st2[n]? = some (.lst xs) ∧ d = .ref m ∧ st2[m]? = some (.lst ys) ∧ xs.length + ys.length ≤ 10000000 ∧ W (execs g ss loc (st2.set n (.lst (xs ++ ys)))) Q) : W (execs g (.ext o e :: ss) loc st) Q :=
  w_scons (by
    rw [exec]
    refine w_bnd (h.mono fun x st1 ⟨n, zs, e0, e1, h⟩ => w_bnd ?_)
    subst e0
    simp only [lstOk, e1]
    refine w_bnd (h.mono fun d st2 ⟨m, ys, xs, e2, e3, e4, hz, q⟩ => w_bnd ?_)
    subst e3
    simp only [extend, e2, e4]
    rw [if_pos hz]
    exact q)
theorem w_clr (h : W (run g o loc st) fun x st1 => ∃ n xs, x = .ref n ∧ st1[n]? = some (.lst xs) ∧ W (execs g ss loc (st1.set n (.lst []))) Q) : W (execs g (.clr o :: ss) loc st) Q :=
  w_scons (by
    rw [exec]
    refine w_bnd (h.mono fun x st1 ⟨n, xs, e0, e1, h⟩ => w_bnd ?_)
    subst e0
    simp only [clearD, e1]
    exact h)
end
section
variable {g : Fns} {loc : Loc} {st : Sto} {Q : Fl → Sto → Prop} {ss body : List S} {e : Ex} {is : List Nat}
theorem w_forUA (I : Nat → List D → Nat → Loc → Sto → Prop)
    (h : W (run g e loc st) fun d st1 => ∃ n xs, d = .ref n ∧ st1[n]? = some (.lst xs) ∧ I n xs 0 loc st1 ∧ (∀ i loc st, I n xs i loc st → st[n]? = some (.lst xs)) ∧ (∀ i x loc st, xs[i]? = some x → I n xs i loc st → ∃ ds, seqOf st x = some ds ∧ ds.length = is.length ∧ W (execs g body (setL is ds loc) st) (Kf (I n xs (i + 1)) (Kn g ss Q))) ∧ ∀ loc st, I n xs xs.length loc st → W (execs g ss loc st) Q) :
    W (execs g (.forU is e body :: ss) loc st) Q := by
  refine w_scons ?_
  rw [exec]
  refine w_bnd (h.mono fun d st1 ⟨n, xs, hd, hn, h0, keep, step, fin⟩ => w_bnd ?_)
  subst hd
  show W (forS _ (.at n) loc st1) _
  have hL : lenS (.at n) st1 = xs.length := by simp only [lenS, hn]
  unfold forS
  rw [hL]
  refine w_forNA (I n xs) keep (fun i x loc st e q => ?_) fin _ 0 loc st1 (by omega) (by omega) h0
  obtain ⟨ds, e1, e2, q⟩ := step i x loc st e q
  refine w_bnd ?_
  unfold items?
  rw [e1]
  dsimp only
  rw [if_pos e2]
  show W (execs g body (setL is ds loc) st) _
  refine q.mono fun r st1 q => ?_
  cases r with
  | nx loc' => exact q
  | rt d => exact q
  | ex n l => exact q
end
noncomputable def LB (st : Sto) (n : Nat) : Prop := ∃ ns : List Int, st[n]? = some (.lst (ns.map .int))
structure Lp (n : Nat) (st st' : Sto) : Prop where
  le : st.length ≤ st'.length
  same : ∀ i, i < st.length → i ≠ n → st'[i]? = st[i]?
  box : LB st' n
theorem LB.lt {st : Sto} {n : Nat} (h : LB st n) : n < st.length := by
  obtain ⟨ns, e⟩ := h
  exact (List.getElem?_eq_some_iff.mp e).1
theorem Lp.of_gr {st st' : Sto} {n : Nat} (h : LB st n) (g : Gr st st') : Lp n st st' :=
  ⟨g.le, fun i hi _ => by
    obtain ⟨t, rfl⟩ := g
    rw [List.getElem?_append_left hi], let ⟨ns, e⟩ := h; ⟨ns, g.at e⟩⟩
theorem Lp.refl {st : Sto} {n : Nat} (h : LB st n) : Lp n st st := .of_gr h (.refl _)
theorem Lp.trans {n : Nat} {a b c : Sto} (h : Lp n a b) (k : Lp n b c) : Lp n a c :=
  ⟨Nat.le_trans h.le k.le, fun i hi hn => (k.same i (Nat.lt_of_lt_of_le hi h.le) hn).trans (h.same i hi hn), k.box⟩
theorem Lp.more {n : Nat} {a b : Sto} (h : Lp n a b) (o : O) : Lp n a (b ++ [o]) := h.trans (.of_gr h.box (.one _ _))
theorem Lp.at {n : Nat} {a b : Sto} (h : Lp n a b) {i : Nat} {o : O} (e : a[i]? = some o) (hn : i ≠ n) : b[i]? = some o := by
  rw [h.same i (List.getElem?_eq_some_iff.mp e).1 hn]; exact e
theorem eqL_nil {st : Sto} {p q : Nat} {xs : List D} (hp : st[p]? = some (.lst xs)) (hq : st[q]? = some (.lst [])) : eqD 60 st (.ref p) (.ref q) = some xs.isEmpty := by
  have e : eqD 60 st (.ref p) (.ref q) = allEq (eqD 59 st) xs [] := by
    show (match shape st (.ref p), shape st (.ref q) with
    | some (.sc x), some (.sc y) => some (eqV x y)
    | some (.t xs), some (.t ys) => allEq (eqD 59 st) xs ys
    | some (.l xs), some (.l ys) => allEq (eqD 59 st) xs ys
    | some _, some _ => some false
    | _, _ => none) = _
    simp only [shape, hp, hq]
  rw [e]
  cases xs <;> rfl
section
variable {k n : Nat} {st : Sto} {Q : D → Sto → Prop}
theorem s_take (hb : LB st n) (h : ∀ i st', Lp n st st' → Q (.int i) st') : Wv (calls tab (k + 1) i__law_take [.ref n] st) Q := by
  obtain ⟨ns, e⟩ := id hb
  have L1 := (Lp.refl hb).more (.lst [])
  walk_at "call"
  refine w_eq (eqL_nil (at_old e) at_new) ⟨_, rfl, fun z => ?_, fun z => ?_⟩
  · walk_at "ev"
    exact h _ _ L1
  · walk_at "ev"
    cases ns with
    | nil => simp at z
    | cons i ns =>
      refine w_popF ?_
      walk_at "ev"
      refine ⟨_, _, _, rfl, at_old e, ?_⟩
      walk_at "ev"
      refine h _ _ ⟨by rw [List.length_set]; exact L1.le, fun j hj hn => by rw [List.getElem?_set_ne (Ne.symm hn)]; exact L1.same j hj hn, ⟨ns, set_at L1.box.lt⟩⟩
end
noncomputable def mx (c m : Int) : Int := (((c % 2147483629 * 48271 + m * 7919 + 104729) % 2147483629 * ((c % 2147483629 * 48271 + m * 7919 + 104729) % 2147483629) % 2147483629 * 16807 + m * 104729 + 11) % 2147483587) * (((c % 2147483629 * 48271 + m * 7919 + 104729) % 2147483629 * ((c % 2147483629 * 48271 + m * 7919 + 104729) % 2147483629) % 2147483629 * 16807 + m * 104729 + 11) % 2147483587) % 2147483587
section
variable {k : Nat} {st : Sto} {Q : D → Sto → Prop}
theorem s_mixed {c m : Int} (h : Q (.int (mx c m)) st) : Wv (calls tab (k + 1) i__law_mixed [.int c, .int m] st) Q := by
  walk_at "call"
  exact h
theorem w_appI {g : Fns} {o e : Ex} {loc : Loc} {st : Sto} {ss : List S} {Q : Fl → Sto → Prop} {p : Nat} {xs : List D} (ho : ∀ {Q : D → Sto → Prop}, Q (.ref p) st → W (run g o loc st) Q) (hp : st[p]? = some (.lst xs)) (hl : xs.length < 1000000) (h : W (run g e loc st) fun d st1 => st1 = st ∧ W (execs g ss loc (st.set p (.lst (xs ++ [d])))) Q) : W (execs g (.app o e :: ss) loc st) Q :=
  w_app (ho (w_lstOk hp (h.mono fun d st1 ⟨e, q⟩ => by subst e; exact w_append hp hl q)))
noncomputable def Mk (st st' : Sto) (m : Nat) : Prop := ∃ ns : List Int, st' = st ++ [.lst (ns.map .int)] ∧ ns.length ≤ m
theorem Mk.add {st : Sto} {m : Nat} {ns : List Int} {i : Int} (hl : ns.length ≤ m) : Mk st (List.set (st ++ [O.lst (ns.map D.int)]) st.length (O.lst (ns.map D.int ++ [D.int i]))) (m + 1) := by
  refine ⟨ns ++ [i], ?_, by simp; omega⟩
  rw [set_one]
  simp
theorem s_numbers {n : Nat} {a b : Int} (hn : st[n]? = some (.lst [.int a, .int b])) (h : ∀ p st', Gr st st' → st.length ≤ p → LB st' p → Q (.ref p) st') : Wv (calls tab (k + 2) i__law_numbers [.ref n, .int 60] st) Q := by
  walk_at "call"
  refine w_forA (fun _ xs i loc st' => xs = [.int a, .int b] ∧ (∃ a b c, loc = [some (.ref n), some (.int 60), some (.ref st.length), a, b, c]) ∧ Mk st st' (40 * i)) ?_
  walk_at "ev"
  refine ⟨_, _, rfl, at_old hn, ⟨rfl, ⟨_, _, _, rfl⟩, [], rfl, by simp⟩, ?_, ?_, ?_⟩
  · rintro i loc st1 ⟨_, _, ns, rfl, _⟩
    exact at_old hn
  · intro i x loc st1 hx ⟨_, ⟨a1, b1, c1, e1⟩, hM⟩
    subst e1
    have hi : i < 2 := by
      have := (List.getElem?_eq_some_iff.mp hx).1
      simpa using this
    have : ∃ v : Int, x = .int v := by
      have := List.mem_of_getElem? hx
      simp only [List.mem_cons, List.not_mem_nil, or_false] at this
      rcases this with rfl | rfl <;> exact ⟨_, rfl⟩
    obtain ⟨v, rfl⟩ := this
    simp only [List.set_cons_succ, List.set_cons_zero]
    walk_at "ev"
    refine w_for (fun xs j loc st' => (∃ (b : Int) (c : Option D), loc = [some (.ref n), some (.int 60), some (.ref st.length), some (.int v), some (.int b), c]) ∧ Mk st st' (40 * i + j)) ?_
    walk_at "ev"
    refine ⟨_, source_rng (by decide), ⟨⟨_, _, rfl⟩, hM⟩, ?_, ?_⟩
    · intro j y loc st2 hy ⟨⟨b2, c2, e2⟩, hM2⟩
      subst e2
      have hj : j < 40 := by
        have := (List.getElem?_eq_some_iff.mp hy).1
        rw [rangeD_len] at this
        exact this
      obtain ⟨zs, rfl, hz⟩ := hM2
      simp only [List.set_cons_succ, List.set_cons_zero]
      walk_at "ev"
      refine ⟨_, rfl, fun _ => ?_, fun _ => ?_⟩
      · refine w_appI (fun q => w_v rfl q) at_new (by simp; omega) ?_
        walk_at "ev"
        refine w_lenL at_new ?_
        walk_at "ev"
        refine s_mixed ?_
        walk_at "ev"
        refine ⟨rfl, ?_⟩
        walk_at "ev"
        exact ⟨⟨_, _, rfl⟩, Mk.add (by omega)⟩
      · walk_at "ev"
        refine ⟨_, rfl, fun _ => ?_, fun _ => ?_⟩
        · refine w_appI (fun q => w_v rfl q) at_new (by simp; omega) ?_
          walk_at "ev"
          refine ⟨rfl, ?_⟩
          walk_at "ev"
          exact ⟨⟨_, _, rfl⟩, Mk.add (by omega)⟩
        · walk_at "ev"
          exact ⟨⟨_, _, rfl⟩, zs, rfl, by omega⟩
    · intro loc st2 ⟨⟨b2, c2, e2⟩, hM2⟩
      subst e2
      walk_at "ev"
      rw [rangeD_len] at hM2
      exact ⟨trivial, ⟨_, _, _, rfl⟩, by simpa [Nat.mul_add] using hM2⟩
  · intro loc st1 ⟨_, ⟨a1, b1, c1, e1⟩, hM⟩
    subst e1
    obtain ⟨zs, rfl, hz⟩ := hM
    have hz : zs.length ≤ 80 := by simpa using hz
    refine w_whil (fun m' loc st' => ∃ zs : List Int, st' = st ++ [.lst (zs.map .int)] ∧ zs.length ≤ 200 ∧ m' = 60 - zs.length ∧ loc = [some (.ref n), some (.int 60), some (.ref st.length), a1, b1, c1]) (60 - zs.length) (by omega) ⟨zs, rfl, by omega, rfl, rfl⟩ ?_
    intro m' loc st2 ⟨ys, e2, hy, e3, e4⟩
    subst e2 e4
    walk_at "ev"
    refine w_lenL at_new ?_
    walk_at "ev"
    refine ⟨_, rfl, fun hb => ?_, fun hb => ?_⟩
    · have hb := of_decide_eq_true hb
      simp only [List.length_map] at hb
      refine ⟨60 - (ys.length + 1), by omega, ?_⟩
      refine w_appI (fun q => w_v rfl q) at_new (by simp; omega) ?_
      walk_at "ev"
      refine w_lenL at_new ?_
      walk_at "ev"
      refine s_mixed ?_
      walk_at "ev"
      refine ⟨rfl, ?_⟩
      walk_at "ev"
      refine ⟨ys ++ [mx (ys.map D.int).length 60 % 1009], ?_, by simp; omega, by simp, rfl⟩
      rw [set_one]
      simp
    · walk_at "ev"
      refine ⟨_, rfl, w_slL at_new ?_⟩
      walk_at "ev"
      refine h _ _ ((Gr.one _ _).more _) (by simp) ⟨(ys.drop (HT.sIx (ys.map D.int).length 0 none)).take (HT.sIx (ys.map D.int).length (ys.map D.int).length (some 60) - HT.sIx (ys.map D.int).length 0 none), ?_⟩
      rw [at_new]
      simp [cutD, List.map_take, List.map_drop]
theorem s_cell {ns : List Int} {i : Int} (h0 : 0 ≤ i) (h : ∀ v, Q (.int v) st) : Wv (calls tab (k + 1) i__law_cell_at [.fl (ns.map .int), .int i] st) Q := by
  walk_at "call"
  refine ⟨_, rfl, fun hb => ?_, fun _ => ?_⟩
  · have hb := of_decide_eq_true hb
    walk_at "ev"
    obtain ⟨d, e, e2⟩ := atI_in (xs := ns.map D.int) h0 hb
    refine w_ixF e ?_
    walk_at "ev"
    have := List.mem_of_getElem? e2
    obtain ⟨v, _, rfl⟩ := List.mem_map.mp this
    exact h v
  · walk_at "ev"
    exact h 0
theorem s_at {n : Nat} {f : Bool} {kvs : List (P × D)} {d : D} (hn : st[n]? = some (.dtt f kvs)) (hd : VS d) (h : Q (sy.at_ (fun k => (Cb.look kvs k).getD (sy.was k)) d) st) : Wv (calls tab (k + 1) i__law_at [.ref n, d] st) Q := by
  cases hd with
  | pl hk =>
    obtain ⟨s, j, hs, rfl⟩ := hk
    have fin : Q ((Cb.look kvs (pk2 s j)).getD (.tup [.str "was", keyD (pk2 s j)])) st := by
      have := h
      rw [show keyD (pk2 s j) = sy.kd (pk2 s j) from rfl, sy.at_kd _ ⟨s, j, hs, rfl⟩] at this
      exact this
    show Wv (calls tab (k + 1) i__law_at [.ref n, .tup [.str s, .int j]] st) Q
    walk_at "call"
    refine w_eq eqD_ss ⟨_, rfl, fun _ => ?_, fun hb => ?_⟩
    · refine ⟨_, rfl, fun _ => ?_, nofun⟩
      walk_at "ev"
      refine ⟨_, _, _, rfl, hn, ?_⟩
      walk_at "ev"
      refine ⟨_, _, _, hn, key_keyD (pk2 s j), ?_⟩
      walk_at "ev"
      exact fin
    · walk_at "ev"
      refine w_eq eqD_ss ⟨_, rfl, fun _ => ?_, fun hb2 => ?_⟩
      · walk_at "ev"
        refine ⟨_, _, _, rfl, hn, ?_⟩
        walk_at "ev"
        refine ⟨_, _, _, hn, key_keyD (pk2 s j), ?_⟩
        walk_at "ev"
        exact fin
      · have := isPl_ok hs
        rw [hb, hb2] at this
        cases this
  | num i =>
    walk_at "call"
    refine w_eq eqD_ss ⟨_, rfl, fun hb => absurd hb (by decide +kernel), fun hb => ?_⟩
    walk_at "ev"
    refine w_eq eqD_ss ⟨_, rfl, fun hb => absurd hb (by decide +kernel), fun hb => ?_⟩
    walk_at "ev"
    exact h
  | tr b =>
    walk_at "call"
    refine w_eq eqD_ss ⟨_, rfl, fun hb => absurd hb (by decide +kernel), fun hb => ?_⟩
    walk_at "ev"
    refine w_eq eqD_ss ⟨_, rfl, fun hb => absurd hb (by decide +kernel), fun hb => ?_⟩
    walk_at "ev"
    exact h
end
noncomputable def mvD (m : P × D) : D := .tup [.str "move", keyD m.1, m.2]
theorem Ph2_le {F S ms : List (P × D)} {R : List P} {sp : P} (h : Cb.Ph2 sy F sp S ms R) : S.length ≤ F.length := by
  have := Cb.len_sub h.nd (ys := Cb.keys F) fun p hp => by
    obtain ⟨d, e⟩ := Cb.look_in hp
    exact Cb.look_key (h.sub _ _ e)
  simpa using this
theorem src_pl {F : List (P × D)} (hF : Cb.Good sy F) {p : P} {d : D} (hd : Cb.look F p = some d) (hq : sy.qk d ∈ Cb.keys F) : d = keyD (sy.qk d) ∧ ok (sy.qk d) := by
  refine ⟨?_, hF.okk _ hq⟩
  cases hi : sy.isP d with
  | true => exact hF.pl _ _ hd hi
  | false => exact absurd hq (hF.cn _ _ hd hi)
section
variable {k : Nat} {st : Sto} {Q : D → Sto → Prop}
theorem atI_cons0 {α : Type} {x : α} {xs : List α} : atI (x :: xs) 0 = some x := by
  unfold atI ixN
  rw [if_pos (by decide), if_pos (by simp)]
  rfl
theorem set_same {st : Sto} {n : Nat} {o : O} (h : st[n]? = some o) : st.set n o = st := by
  refine List.ext_getElem? fun i => ?_
  by_cases e : n = i
  · subst e; rw [List.getElem?_set_self (List.getElem?_eq_some_iff.mp h).1, h]
  · rw [List.getElem?_set_ne e]
theorem at2a {st : Sto} {n : Nat} {o : O} {l : List O} (h : n < st.length) : (st.set n o ++ l)[n]? = some o := by
  rw [List.getElem?_append_left (by simpa using h), set_at h]
theorem at2c {st : Sto} {n : Nat} {o a b : O} {l : List O} : (st.set n o ++ a :: b :: l)[st.length + 1]? = some b := by
  rw [List.getElem?_append_right (by simp)]; simp
theorem set2a {st : Sto} {n : Nat} {o o' : O} {l : List O} (h : n < st.length) : (st.set n o ++ l).set n o' = st.set n o' ++ l := by
  rw [List.set_append_left _ _ (by simpa using h), List.set_set]
theorem set2c {st : Sto} {n : Nat} {o a b c : O} {l : List O} : (st.set n o ++ a :: b :: l).set (st.length + 1) c = st.set n o ++ a :: c :: l := by
  rw [List.set_append_right _ _ (by simp)]; simp
theorem s_ring {n : Nat} {sp : P} {F S0 ms0 : List (P × D)} {R : List P} (hF : Cb.Good sy F) (h8 : F.length ≤ 100) (hok : ok sp) (hsp : sp ∉ Cb.keys F) (h2 : Cb.Ph2 sy F sp S0 ms0 R) (h0 : S0 ≠ []) (hn : st[n]? = some (.dtt false S0))
    (h : ∀ (p : Nat) (st' : Sto) (S mv : List (P × D)) (b : P), st.length ≤ p → st.length ≤ st'.length → (∀ i, i < st.length → i ≠ n → st'[i]? = st[i]?) → st'[n]? = some (.dtt false S) → st'[p]? = some (.lst (mv.map mvD)) → S.length < S0.length → mv.length ≤ 200 → Cb.Ph2 sy F sp S (ms0 ++ mv) (R ++ [b]) → Q (.ref p) st') :
    Wv (calls tab (k + 1) i_ring_moves [.ref n, keyD sp] st) Q := by
  obtain ⟨⟨b, d0⟩, S0', rfl⟩ := List.exists_cons_of_ne_nil h0
  have hb : b ∈ Cb.keys ((b, d0) :: S0') := by simp [Cb.keys]
  have hlt : n < st.length := (List.getElem?_eq_some_iff.mp hn).1
  have hle := Ph2_le h2
  walk_at "call"
  refine ⟨_, _, _, rfl, hn, by omega, ?_⟩
  walk_at "ev"
  refine w_ixL (d := keyD b) at_new atI_cons0 ?_
  walk_at "ev"
  simp only [List.length_append, List.length_singleton, List.append_assoc, List.singleton_append, List.set_cons_succ, List.set_cons_zero]
  have hb0 : b ∈ Cb.keys F := by obtain ⟨d, e⟩ := Cb.look_in hb; exact Cb.look_key (h2.sub _ _ e)
  have hbok : ok b := hF.okk _ hb0
  refine w_whil (fun m loc st' => ∃ (vs : List P) (c : P) (S ms : List (P × D)), Cb.Rg sy F sp ((b, d0) :: S0') ms0 b vs c S (ms0 ++ ms) ∧ st' = st.set n (.dtt false S) ++ [.lst (((b, d0) :: S0').map fun kv => keyD kv.1), .lst (ms.map mvD)] ∧ loc = [some (.ref n), some (keyD sp), some (keyD b), some (.ref (st.length + 1)), some (keyD c)] ∧ m = S.length) ((b, d0) :: S0').length (by omega)
    ⟨[], b, _, [(sp, keyD b)], Cb.Rg.start hF hok hsp h2 hb, by rw [set_same hn]; rfl, rfl, rfl⟩ ?_
  intro m loc st1 ⟨vs, c, S, ms, g, e1, e2, e3⟩
  subst e1 e2 e3
  obtain ⟨hc, d, hd, hd0⟩ := g.here
  have hdF := h2.sub _ _ hd0
  have hqS := h2.clo _ _ hd0
  have hqF : sy.qk d ∈ Cb.keys F := by obtain ⟨x, e⟩ := Cb.look_in hqS; exact Cb.look_key (h2.sub _ _ e)
  obtain ⟨hpl, hokd⟩ := src_pl hF hdF hqF
  have hvs : vs.length ≤ S.length + vs.length := by omega
  have hsl := g.sl
  have hml : ms.length = 1 + vs.length := by have := g.len; simp at this; omega
  walk_at "ev"
  refine ⟨_, _, _, _, _, rfl, at2a hlt, key_keyD c, hd, ?_⟩
  walk_at "ev"
  refine w_ne (k := decide (b = sy.qk d)) (by rw [hpl, qk_keyD]; exact (eq_ps hokd (.pl hbok)).trans (by rw [qk_keyD])) ⟨_, rfl, fun hne => ?_, fun heq => ?_⟩
  · have hne : sy.qk d ≠ b := fun z => by rw [z] at hne; simp at hne
    have hdl := Cb.drp_len g.nd (Cb.look_key hd)
    refine ⟨(Cb.drp S c).length, by omega, ?_⟩
    walk_at "ev"
    refine w_lstOk at2c ?_
    walk_at "ev"
    refine ⟨_, _, _, _, _, rfl, at2a hlt, key_keyD c, hd, ?_⟩
    walk_at "ev"
    refine w_append at2c (by simp; omega) ?_
    walk_at "ev"
    refine ⟨_, _, _, rfl, by rw [set2c]; exact at2a hlt, ?_⟩
    walk_at "ev"
    refine ⟨_, _, _, by rw [set2c]; exact at2a hlt, key_keyD c, hd, ?_⟩
    walk_at "ev"
    refine ⟨vs ++ [c], sy.qk d, Cb.drp S c, ms ++ [(c, d)], ?_, ?_, ?_, rfl⟩
    · rw [← List.append_assoc]; exact Cb.Rg.step hF hsp h2 g hd hne
    · rw [set2c, set2a hlt, List.map_append]; rfl
    · simp only [List.set_cons_succ, List.set_cons_zero]
      rw [← hpl]
  · have heq : sy.qk d = b := by have := of_decide_eq_true (by simpa using heq : decide (b = sy.qk d) = true); exact this.symm
    walk_at "ev"
    refine ⟨_, _, _, rfl, at2a hlt, ?_⟩
    walk_at "ev"
    refine ⟨_, _, _, at2a hlt, key_keyD c, hd, ?_⟩
    walk_at "ev"
    rw [set2a hlt]
    refine w_lstOk at2c ?_
    walk_at "ev"
    refine w_append at2c (by simp; omega) ?_
    walk_at "ev"
    have hdl := Cb.drp_len g.nd (Cb.look_key hd)
    refine h _ _ (Cb.drp S c) (ms ++ [(c, keyD sp)]) b (by omega) (by simp) (fun i hi hin => ?_) (by rw [set2c]; exact at2a hlt) ?_ (by omega) (by simp; omega) ?_
    · rw [set2c, List.getElem?_append_left (by simpa using hi), List.getElem?_set_ne (Ne.symm hin)]
    · rw [set2c, at2c, List.map_append]; rfl
    · rw [← List.append_assoc]; exact Cb.Rg.fin hF hok hsp h2 g hd heq
end
theorem at_k {st l : Sto} {i : Nat} : (st ++ l)[st.length + i]? = l[i]? := by
  rw [List.getElem?_append_right (by omega), Nat.add_sub_cancel_left]
theorem set_k {st l : Sto} {i : Nat} {x : O} : (st ++ l).set (st.length + i) x = st ++ l.set i x := by
  rw [List.set_append_right _ _ (by omega), Nat.add_sub_cancel_left]
noncomputable def rdD (rd : List (P × Int)) : List (P × D) := rd.map fun q => (q.1, .int q.2)
theorem look_rdD (rd : List (P × Int)) (k : P) : Cb.look (rdD rd) k = (Cb.look rd k).map .int := by
  induction rd with
  | nil => rfl
  | cons q r ih =>
    show Cb.look ((q.1, D.int q.2) :: rdD r) k = _
    unfold Cb.look
    by_cases e : q.1 = k
    · rw [if_pos e, if_pos e]; rfl
    · rw [if_neg e, if_neg e]; exact ih
theorem keys_rdD (rd : List (P × Int)) : Cb.keys (rdD rd) = Cb.keys rd := by
  induction rd with
  | nil => rfl
  | cons q r ih => show q.1 :: Cb.keys (rdD r) = q.1 :: Cb.keys r; rw [ih]
theorem put_rdD (rd : List (P × Int)) (k : P) (v : Int) : Cb.put (rdD rd) k (.int v) = rdD (Cb.put rd k v) := by
  unfold Cb.put
  rw [Cb.any_key, Cb.any_key, keys_rdD]
  by_cases h : k ∈ Cb.keys rd
  · rw [if_pos (by simp [h]), if_pos (by simp [h])]
    unfold rdD
    rw [List.map_map, List.map_map]
    refine List.map_congr_left fun q _ => ?_
    by_cases e : q.1 = k <;> simp [e]
  · rw [if_neg (by simp [h]), if_neg (by simp [h])]
    unfold rdD
    rw [List.map_append]; rfl
theorem rdD_len (rd : List (P × Int)) : (rdD rd).length = rd.length := by simp [rdD]
noncomputable def so (st : Sto) (l1 l2 : O) (S : List (P × D)) (rd : List (P × Int)) (ms : List (P × D)) (fr : List P) (t : Sto) : Sto := st ++ (l1 :: .dtt false S :: l2 :: .dtt false (rdD rd) :: .lst (ms.map mvD) :: .lst (fr.map keyD) :: t)
section
variable {k : Nat} {st : Sto} {Q : D → Sto → Prop} {l1 l2 : O} {S ms F : List (P × D)} {rd : List (P × Int)} {fr : List P} {t : Sto}
theorem so1 : (so st l1 l2 S rd ms fr t)[st.length + 1]? = some (.dtt false S) := at_k
theorem so3 : (so st l1 l2 S rd ms fr t)[st.length + 3]? = some (.dtt false (rdD rd)) := at_k
theorem so4 : (so st l1 l2 S rd ms fr t)[st.length + 4]? = some (.lst (ms.map mvD)) := at_k
theorem so5 : (so st l1 l2 S rd ms fr t)[st.length + 5]? = some (.lst (fr.map keyD)) := at_k
theorem ss1 {S' : List (P × D)} : (so st l1 l2 S rd ms fr t).set (st.length + 1) (.dtt false S') = so st l1 l2 S' rd ms fr t := set_k
theorem ss3 {rd' : List (P × Int)} : (so st l1 l2 S rd ms fr t).set (st.length + 3) (.dtt false (rdD rd')) = so st l1 l2 S rd' ms fr t := set_k
theorem ss4 {m : P × D} : (so st l1 l2 S rd ms fr t).set (st.length + 4) (.lst (ms.map mvD ++ [mvD m])) = so st l1 l2 S rd (ms ++ [m]) fr t := by
  unfold so; rw [set_k, List.map_append]; rfl
theorem ss4' {mv : List (P × D)} : (so st l1 l2 S rd ms fr t).set (st.length + 4) (.lst (ms.map mvD ++ mv.map mvD)) = so st l1 l2 S rd (ms ++ mv) fr t := by
  unfold so; rw [set_k, List.map_append]; rfl
theorem ss5 {fr' : List P} : (so st l1 l2 S rd ms fr t).set (st.length + 5) (.lst (fr'.map keyD)) = so st l1 l2 S rd ms fr' t := set_k
theorem so_len : (so st l1 l2 S rd ms fr t).length = st.length + (t.length + 6) := by simp [so]
theorem Ph1_le {ms : List (P × D)} (h : Cb.Ph1 sy F S rd fr ms) : S.length ≤ F.length := by have := h.len; omega
theorem s_moves2 {n : Nat} {sp : P} {x : Option D} (hF : Cb.Good sy F) (hvs : ∀ p d, Cb.look F p = some d → VS d) (h8 : F.length ≤ 100) (hok : ok sp) (hsp : sp ∉ Cb.keys F) (hP : Cb.Ph1 sy F F rd fr [])
    (h : ∀ (p : Nat) (st' : Sto) (ms : List (P × D)) (R : List P), st.length ≤ p → Gr st st' → st'[p]? = some (.lst (ms.map mvD)) → ms.length ≤ 100000 → Cb.Told sy F sp ms R → Q (.ref p) st') :
    W (execs (calls tab (k + 1)) (f_moves_in_row.body.drop 5) [some (.ref n), some (keyD sp), some (.ref (st.length + 1)), some (.ref (st.length + 3)), x, some (.ref (st.length + 4)), some (.ref (st.length + 5)), none] (so st l1 l2 F rd [] fr [])) (Kr Q) := by
  dsimp only [f_moves_in_row, List.drop]
  refine w_whil (fun m loc st' => ∃ (S ms : List (P × D)) (rd : List (P × Int)) (fr : List P) (x y : Option D), Cb.Ph1 sy F S rd fr ms ∧ st' = so st l1 l2 S rd ms fr [] ∧ m = S.length ∧ loc = [some (.ref n), some (keyD sp), some (.ref (st.length + 1)), some (.ref (st.length + 3)), x, some (.ref (st.length + 4)), some (.ref (st.length + 5)), y]) F.length (by omega)
    ⟨F, [], rd, fr, x, none, hP, rfl, rfl, rfl⟩ ?_
  clear hP
  rintro m loc st1 ⟨S, ms, rd, fr, x, y, hP, e1, e2, e3⟩
  subst e1 e2 e3
  have hle := Ph1_le hP
  have hml := hP.len
  walk_at "ev"
  refine w_lenL so5 ?_
  walk_at "ev"
  refine ⟨_, rfl, fun hb => ?_, fun hb => ?_⟩
  · have hb := of_decide_eq_true hb
    have hne : fr ≠ [] := fun z => by subst z; simp at hb
    obtain ⟨fr', p, rfl⟩ : ∃ fr' p, fr = fr' ++ [p] := ⟨fr.dropLast, fr.getLast hne, (List.dropLast_concat_getLast hne).symm⟩
    have hpS : p ∈ Cb.keys S := ((hP.fre p).mp (by simp)).1
    obtain ⟨d, hd⟩ := Cb.look_in hpS
    have hdF := hP.sub _ _ hd
    have hv := hvs _ _ hdF
    have hdl := Cb.drp_len hP.nd hpS
    refine ⟨(Cb.drp S p).length, by omega, ?_⟩
    walk_at "ev"
    refine w_popL ?_
    walk_at "ev"
    refine ⟨_, _, keyD p, rfl, so5, by simp, ?_⟩
    rw [show ((fr' ++ [p]).map keyD).dropLast = fr'.map keyD by simp, ss5]
    walk_at "ev"
    refine ⟨_, _, _, rfl, so1, ?_⟩
    walk_at "ev"
    refine ⟨_, _, _, so1, key_keyD p, hd, ?_⟩
    rw [ss1]
    walk_at "ev"
    refine w_lstOk so4 ?_
    walk_at "ev"
    refine w_append so4 (by simp; omega) ?_
    rw [show D.tup [D.str "move", keyD p, d] = mvD (p, d) from rfl, ss4]
    walk_at "ev"
    refine ⟨_, _, _, _, rfl, so3, hv.q, ?_⟩
    rw [if_neg (by decide), look_rdD, Option.isSome_map, Cb.look_isSome, hP.rk]
    refine ⟨_, rfl, fun hq => ?_, fun hq => ?_⟩
    · have hq : sy.qk d ∈ Cb.keys F := by simpa using hq
      obtain ⟨c, hc⟩ := Cb.look_in (kvs := rd) (by rw [hP.rk]; exact hq)
      obtain ⟨hpl, hokd⟩ := src_pl hF hdF hq
      have hkd : key? d = some (sy.qk d) := by rw [hpl, qk_keyD]; exact key_keyD _
      have hlr : (rdD rd).length < 1000000 := by
        have : (Cb.keys rd).length = (Cb.keys F).length := by rw [hP.rk]
        rw [rdD_len]; simp at this; omega
      walk_at "ev"
      refine ⟨_, _, _, _, c, rfl, so3, hkd, by rw [look_rdD, hc]; rfl, ?_⟩
      walk_at "ev"
      refine ⟨_, _, rfl, so3, hlr, ?_⟩
      rw [if_pos rfl, put_rdD, ss3]
      walk_at "ev"
      refine ⟨_, _, _, _, .int (c - 1), rfl, so3, hkd, by rw [look_rdD, Cb.look_put, if_pos rfl]; rfl, ?_⟩
      walk_at "ev"
      refine ⟨_, rfl, fun hz => ?_, fun hz => ?_⟩
      · have hz := of_decide_eq_true hz
        walk_at "ev"
        refine w_lstOk so5 ?_
        walk_at "ev"
        have hfl : fr'.length ≤ S.length := by
          have hn := hP.fnd
          rw [List.nodup_append] at hn
          have := Cb.len_sub hn.1 (ys := Cb.keys S) fun q hq => ((hP.fre q).mp (by simp [hq])).1
          simpa using this
        refine w_append so5 (by simp; omega) ?_
        rw [show fr'.map keyD ++ [d] = (fr' ++ [sy.qk d]).map keyD by rw [List.map_append, List.map_singleton, ← hpl], ss5]
        walk_at "ev"
        refine ⟨_, _, _, _, _, _, Cb.Ph1.step hF hP hd ⟨fun z => absurd hq z, fun n' hn' => ?_⟩, rfl, rfl, rfl⟩
        rw [hc] at hn'
        cases hn'
        exact ⟨rfl, by rw [if_pos hz]⟩
      · have hz : ¬ (c - 1 = 0) := of_decide_eq_false hz
        walk_at "ev"
        refine ⟨_, _, _, _, _, _, Cb.Ph1.step hF hP hd ⟨fun z => absurd hq z, fun n' hn' => ?_⟩, rfl, rfl, rfl⟩
        rw [hc] at hn'
        cases hn'
        exact ⟨rfl, by rw [if_neg hz]⟩
    · have hq : sy.qk d ∉ Cb.keys F := by simpa using hq
      walk_at "ev"
      refine ⟨_, _, _, _, _, _, Cb.Ph1.step hF hP hd ⟨fun _ => ⟨rfl, rfl⟩, fun n' hn' => ?_⟩, rfl, rfl, rfl⟩
      exact absurd (by rw [← hP.rk]; exact Cb.look_key hn') hq
  · have hb := of_decide_eq_false hb
    have hf : fr = [] := by
      cases fr with
      | nil => rfl
      | cons a b => exact absurd (by simp) hb
    subst hf
    have hQ := hP.two (sp := sp) hsp
    refine w_whil (fun m loc st' => ∃ (S ms : List (P × D)) (R : List P) (t : Sto), Cb.Ph2 sy F sp S ms R ∧ st' = so st l1 l2 S rd ms [] t ∧ S.length ≤ m ∧ ms.length + 300 * S.length ≤ 99000 ∧ loc = [some (.ref n), some (keyD sp), some (.ref (st.length + 1)), some (.ref (st.length + 3)), x, some (.ref (st.length + 4)), some (.ref (st.length + 5)), y]) S.length (by omega)
      ⟨S, ms, [], [], hQ, rfl, Nat.le_refl _, by omega, rfl⟩ ?_
    clear hQ hP hle hml
    rintro m loc st1 ⟨S, ms, R, t, hQ, e1, e2, hms, e3⟩
    subst e1 e3
    walk_at "ev"
    refine ⟨_, _, _, rfl, so1, ?_⟩
    walk_at "ev"
    refine ⟨_, rfl, fun hb => ?_, fun hb => ?_⟩
    · have hb := of_decide_eq_true hb
      have hne : S ≠ [] := fun z => by subst z; simp at hb
      have hpos : 0 < S.length := by cases S with | nil => exact absurd rfl hne | cons a b => simp
      refine ⟨m - 1, by omega, ?_⟩
      refine w_extL ?_
      walk_at "ev"
      refine ⟨_, _, rfl, so4, ?_⟩
      walk_at "ev"
      refine s_ring hF h8 hok hsp hQ hne so1 fun p st2 S' mv b hp hle2 same e1 e2 hl hmv hQ' => ?_
      walk_at "ev"
      have hL : (so st l1 l2 S rd ms [] t).length = st.length + (t.length + 6) := so_len
      have e4 : st2[st.length + 4]? = some (.lst (ms.map mvD)) := (same _ (by omega) (by omega)).trans so4
      refine ⟨_, _, _, e4, rfl, e2, by simp; omega, ?_⟩
      walk_at "ev"
      have hst : ∃ t', st2 = so st l1 l2 S' rd ms [] t' := by
        refine ⟨st2.drop (st.length + 6), List.ext_getElem? fun i => ?_⟩
        by_cases hi : i < st.length + 6
        · by_cases hi1 : i = st.length + 1
          · subst hi1; rw [e1, so1]
          · rw [same i (by omega) hi1]
            by_cases hi0 : i < st.length
            · unfold so; rw [List.getElem?_append_left hi0, List.getElem?_append_left hi0]
            · obtain ⟨j, rfl⟩ : ∃ j, i = st.length + j := ⟨i - st.length, by omega⟩
              unfold so
              rw [at_k, at_k]
              have hj : j < 6 := by omega
              have hj1 : j ≠ 1 := fun z => hi1 (by rw [z])
              match j, hj, hj1 with
              | 0, _, _ => rfl
              | 2, _, _ => rfl
              | 3, _, _ => rfl
              | 4, _, _ => rfl
              | 5, _, _ => rfl
        · obtain ⟨j, rfl⟩ : ∃ j, i = st.length + (j + 6) := ⟨i - st.length - 6, by omega⟩
          unfold so
          rw [at_k]
          show _ = (st2.drop (st.length + 6))[j]?
          rw [List.getElem?_drop]
          congr 1
          omega
      obtain ⟨t', rfl⟩ := hst
      rw [ss4']
      exact ⟨S', ms ++ mv, R ++ [b], t', hQ', rfl, by omega, by simp; omega, rfl⟩
    · have hb := of_decide_eq_false hb
      have hS : S = [] := by
        cases S with
        | nil => rfl
        | cons a b => exact absurd (by simp) hb
      subst hS
      walk_at "ev"
      refine h _ _ ms R (by omega) ⟨_, rfl⟩ so4 (by simp at hms; omega) hQ.told
end
noncomputable def pairD (m : P × D) : D := .tup [keyD m.1, m.2]
noncomputable def mvd (prs : List (P × D)) : List (P × D) := prs.filter fun m => decide (sy.qk m.2 ≠ m.1)
theorem mvd_yes {xs : List (P × D)} {m : P × D} (h : sy.qk m.2 ≠ m.1) : mvd (xs ++ [m]) = mvd xs ++ [m] := by
  unfold mvd; rw [List.filter_append, List.filter_cons, if_pos (by simpa using h)]; rfl
theorem mvd_no {xs : List (P × D)} {m : P × D} (h : sy.qk m.2 = m.1) : mvd (xs ++ [m]) = mvd xs := by
  unfold mvd; rw [List.filter_append, List.filter_cons, if_neg (by simpa using h)]; simp
structure Prs (prs : List (P × D)) : Prop where
  nd : (Cb.keys prs).Nodup
  okk : ∀ m ∈ prs, ok m.1
  vs : ∀ m ∈ prs, VS m.2
  len : prs.length ≤ 8
theorem mvd_nd {prs : List (P × D)} (h : Prs prs) : (Cb.keys (mvd prs)).Nodup := h.nd.sublist (List.Sublist.map _ List.filter_sublist)
theorem mvd_len {prs : List (P × D)} (h : Prs prs) : (mvd prs).length ≤ 8 := Nat.le_trans (List.length_filter_le _ _) h.len
theorem mvd_mem {prs : List (P × D)} {p : P} {d : D} (h : Cb.look (mvd prs) p = some d) : (p, d) ∈ prs ∧ sy.qk d ≠ p := by
  have := List.mem_filter.mp (Cb.look_some h)
  exact ⟨this.1, by simpa using this.2⟩
theorem mvd_good {prs : List (P × D)} (h : Prs prs) : Cb.Good sy (mvd prs) := by
  have okk : ∀ p ∈ Cb.keys (mvd prs), ok p := fun p hp => by
    obtain ⟨d, e⟩ := Cb.look_in hp
    exact h.okk _ (mvd_mem e).1
  refine ⟨mvd_nd h, fun p d e hi => ((h.vs _ (mvd_mem e).1).of_pl hi).1, fun p d e hi z => ?_, fun p d e => (mvd_mem e).2, okk, fun p d e => h.vs _ (mvd_mem e).1⟩
  exact (h.vs _ (mvd_mem e).1).cn hi (okk _ z)
section
variable {k : Nat} {st : Sto} {Q : D → Sto → Prop} {prs : List (P × D)}
theorem comp_moved {g : Fns} {loc : Loc} {n : Nat} {elt : Ex} (e : P × D → D) (hp : Prs prs) (hn : st[n]? = some (.lst (prs.map pairD))) (he : ∀ (m : P × D) (st : Sto) (Q : D → Sto → Prop), Q (e m) st → W (run g elt (some (keyD m.1) :: some m.2 :: loc) st) Q)
    (h : Q (.ref st.length) (st ++ [.lst ((mvd prs).map e)])) : W (compS (pairF (fun x y => run g (.cmp .NotEq (.v 0) (.v 1)) (some x :: some y :: loc)) fun x y => run g elt (some x :: some y :: loc)) (.at n) st) Q := by
  have hl := hp.len
  refine w_compSA (by simp; omega) hn (fun i acc st' => acc = (mvd (prs.take i)).map e ∧ st' = st) ⟨rfl, rfl⟩ (fun i acc st' ⟨_, es⟩ => by subst es; exact hn) (fun i x acc st' hx ⟨ea, es⟩ => ?_) (fun acc st' ⟨ea, es⟩ => ?_)
  · subst ea es
    rw [List.getElem?_map] at hx
    cases hm : prs[i]? with
    | none => rw [hm] at hx; cases hx
    | some m =>
      rw [hm] at hx
      cases hx
      have hmem := List.mem_of_getElem? hm
      have e3 : prs.take (i + 1) = prs.take i ++ [m] := by rw [List.take_succ, hm]; rfl
      refine w_pairF ?_
      walk_at "ev"
      refine w_ne (eq_ps (hp.okk m hmem) (hp.vs m hmem)) ⟨_, rfl, fun hb => he m _ _ ?_, fun hb => ?_⟩
      · have hb : sy.qk m.2 ≠ m.1 := by simpa using hb
        refine ⟨?_, rfl⟩
        rw [e3, mvd_yes hb, List.map_append]
        rfl
      · have hb : sy.qk m.2 = m.1 := by simpa using hb
        refine ⟨?_, rfl⟩
        rw [e3, mvd_no hb]
  · subst ea es
    rw [List.length_map, List.take_length]
    exact h
theorem pairs_map (F : List (P × D)) : pairs? (F.map pairD) = some F := by
  induction F with
  | nil => rfl
  | cons m r ih =>
    rw [List.map_cons, pairs?, ih]
    show (match (key? (keyD m.1)).map fun k' => (k', m.2), some r with | some p, some r' => some (p :: r') | _, _ => none) = _
    rw [key_keyD]; rfl
theorem fill_nodup : ∀ (ps acc : List (P × D)), (Cb.keys (acc ++ ps)).Nodup → ps.foldl (fun acc p => Cb.put acc p.1 p.2) acc = acc ++ ps
  | [], acc, _ => by simp
  | p :: ps, acc, h => by
    rw [List.foldl_cons]
    have hk : p.1 ∉ Cb.keys acc := by
      rw [Cb.keys, List.map_append, List.nodup_append] at h
      exact fun z => h.2.2 p.1 z p.1 (by simp) rfl
    rw [Cb.put_new hk, fill_nodup ps (acc ++ [(p.1, p.2)]) (by simpa using h)]
    simp
theorem fillT_eq {ps : List (P × D)} (h : (Cb.keys ps).Nodup) : fillT ps = ps := by
  unfold fillT; rw [fill_nodup ps [] (by simpa using h)]; rfl
theorem keys_zero (F : List (P × D)) : Cb.keys (F.map fun m => (m.1, (0 : Int))) = Cb.keys F := by
  induction F with
  | nil => rfl
  | cons m r ih => show m.1 :: Cb.keys _ = m.1 :: Cb.keys r; rw [ih]
theorem look_zero (F : List (P × D)) (q : P) (c : Int) (h : Cb.look (F.map fun m => (m.1, (0 : Int))) q = some c) : c = 0 := by
  have := Cb.look_some h
  obtain ⟨m, _, e⟩ := List.mem_map.mp this
  cases e; rfl
theorem s_moves {n : Nat} {sp : P} (hp : Prs prs) (hok : ok sp) (hsp : sp ∉ Cb.keys prs) (hn : st[n]? = some (.lst (prs.map pairD)))
    (h : ∀ (p : Nat) (st' : Sto) (ms : List (P × D)) (R : List P), st.length ≤ p → Gr st st' → st'[p]? = some (.lst (ms.map mvD)) → ms.length ≤ 100000 → Cb.Told sy (mvd prs) sp ms R → Q (.ref p) st') :
    Wv (calls tab (k + 2) i_moves_in_row [.ref n, keyD sp] st) Q := by
  have hF := mvd_good hp
  have h8 := mvd_len hp
  have hsp' : sp ∉ Cb.keys (mvd prs) := fun z => by
    obtain ⟨d, e⟩ := Cb.look_in z
    exact hsp (List.mem_map.mpr ⟨_, (mvd_mem e).1, rfl⟩)
  generalize hFd : mvd prs = F at *
  walk_at "call"
  refine ⟨n, rfl, comp_moved (prs := prs) pairD hp hn (fun m st Q q => ?_) ?_⟩
  · walk_at "ev"
    exact q
  rw [hFd]
  refine ⟨_, _, F, rfl, at_new, pairs_map F, by simp; omega, ?_⟩
  rw [fillT_eq hF.nd]
  walk_at "ev"
  simp only [List.append_assoc, List.length_append, List.length_singleton, List.singleton_append, List.set_cons_succ, List.set_cons_zero]
  refine ⟨_, _, rfl, at_k (i := 1), ?_⟩
  rw [set_k (i := 1)]
  show W (compS _ _ (st ++ [.lst (F.map pairD), .dtt true F])) _
  refine w_compS (by simp; omega) (fun i acc st' => acc = (F.take i).map (fun m => D.tup [keyD m.1, .int 0]) ∧ st' = st ++ [.lst (F.map pairD), .dtt true F]) ⟨rfl, rfl⟩ (fun i x acc st' hx ⟨ea, es⟩ => ?_) (fun acc st' ⟨ea, es⟩ => ?_)
  · subst ea es
    rw [List.getElem?_map] at hx
    cases hm : F[i]? with
    | none => rw [hm] at hx; cases hx
    | some m =>
      rw [hm] at hx
      cases hx
      have e3 : F.take (i + 1) = F.take i ++ [m] := by rw [List.take_succ, hm]; rfl
      refine w_elt ?_
      walk_at "ev"
      rw [e3, List.map_append]
      exact ⟨rfl, rfl⟩
  subst ea es
  rw [List.length_map, List.take_length]
  refine ⟨F, ?_, ?_⟩
  · simp only [List.append_assoc]
    exact at_k (i := 1)
  simp only [List.append_assoc, List.length_append, List.length_cons, List.length_nil, List.cons_append, List.nil_append]
  rw [set_k (i := 1)]
  show ∃ m xs ps, D.ref (st.length + 2) = .ref m ∧ (st ++ [.lst (F.map pairD), .dtt false F, .lst (F.map fun m => D.tup [keyD m.1, .int 0])])[m]? = some (.lst xs) ∧ _
  have ez : (F.map fun m => D.tup [keyD m.1, .int 0]) = (rdD (F.map fun m => (m.1, 0))).map pairD := by
    unfold rdD; rw [List.map_map, List.map_map]; rfl
  refine ⟨_, _, rdD (F.map fun m => (m.1, 0)), rfl, at_k (i := 2), by rw [ez]; exact pairs_map _, by simp; omega, ?_⟩
  rw [fillT_eq (by rw [keys_rdD, keys_zero]; exact hF.nd)]
  walk_at "ev"
  simp only [List.append_assoc, List.length_append, List.length_cons, List.length_nil, List.cons_append, List.nil_append, List.set_cons_succ, List.set_cons_zero]
  refine ⟨_, rfl, w_walkF (kvs := F) (at_k (i := 1)) (fun i loc st' => ∃ (rd : List (P × Int)) (x : Option D), st' = st ++ [.lst (F.map pairD), .dtt true F, .lst (F.map fun m => D.tup [keyD m.1, .int 0]), .dtt false (rdD rd)] ∧ Cb.keys rd = Cb.keys F ∧ (∀ q c, Cb.look rd q = some c → c = Cb.cntS sy (F.take i) q) ∧ loc = [some (.ref n), some (keyD sp), some (.ref (st.length + 1)), some (.ref (st.length + 3)), x, none, none, none]) ?_ ?_ ?_⟩
  · exact ⟨_, none, by rw [set_k (i := 1)]; rfl, keys_zero F, fun q c e => look_zero F q c e, rfl⟩
  · rintro i m loc st1 hm ⟨rd, x, e1, hk, hc, e2⟩
    subst e1 e2
    have e3 : F.take (i + 1) = F.take i ++ [m] := by rw [List.take_succ, hm]; rfl
    have hmF : Cb.look F m.1 = some m.2 := Cb.look_mem hF.nd (List.mem_of_getElem? hm)
    have hv : VS m.2 := hp.vs _ (by rw [← hFd] at hmF; exact (mvd_mem hmF).1)
    have hcn : ∀ q, Cb.cntS sy (F.take (i + 1)) q = Cb.cntS sy (F.take i) q + if sy.qk m.2 = q then 1 else 0 := fun q => by
      rw [e3, Cb.cntS_app]; simp [Cb.cntS]
    simp only [List.set_cons_succ, List.set_cons_zero]
    walk_at "ev"
    refine ⟨_, _, _, _, rfl, at_k (i := 3), hv.q, ?_⟩
    rw [if_neg (by decide), look_rdD, Option.isSome_map, Cb.look_isSome, hk]
    refine ⟨_, rfl, fun hq => ?_, fun hq => ?_⟩
    · have hq : sy.qk m.2 ∈ Cb.keys F := by simpa using hq
      obtain ⟨c, hcc⟩ := Cb.look_in (kvs := rd) (by rw [hk]; exact hq)
      obtain ⟨hpl, hokd⟩ := src_pl hF hmF hq
      have hkd : key? m.2 = some (sy.qk m.2) := by rw [hpl, qk_keyD]; exact key_keyD _
      have hlr : (rdD rd).length < 1000000 := by
        have : (Cb.keys rd).length = (Cb.keys F).length := by rw [hk]
        rw [rdD_len]; simp at this; omega
      walk_at "ev"
      refine ⟨_, _, _, _, c, rfl, at_k (i := 3), hkd, by rw [look_rdD, hcc]; rfl, ?_⟩
      walk_at "ev"
      refine ⟨_, _, rfl, at_k (i := 3), hlr, ?_⟩
      rw [if_neg (by decide), put_rdD, set_k (i := 3)]
      walk_at "ev"
      refine ⟨Cb.put rd (sy.qk m.2) (c + 1), _, rfl, by rw [Cb.keys_put (by rw [hk]; exact hq)]; exact hk, fun q c' e => ?_, rfl⟩
      rw [Cb.look_put] at e
      rw [hcn q]
      by_cases hqq : q = sy.qk m.2
      · rw [if_pos hqq] at e
        cases e
        rw [if_pos hqq.symm, hqq, hc _ _ hcc]
      · rw [if_neg hqq] at e
        rw [if_neg (fun z => hqq z.symm), hc _ _ e]; omega
    · have hq : sy.qk m.2 ∉ Cb.keys F := by simpa using hq
      walk_at "ev"
      refine ⟨rd, _, rfl, hk, fun q c e => ?_, rfl⟩
      have : sy.qk m.2 ≠ q := fun z => hq (by rw [← hk, z]; exact Cb.look_key e)
      rw [hcn q, if_neg this, hc _ _ e]; omega
  rintro loc st1 ⟨rd, x, e1, hk, hc, e2⟩
  subst e1 e2
  rw [List.take_length] at hc
  have hlr : rd.length = F.length := by
    have : (Cb.keys rd).length = (Cb.keys F).length := by rw [hk]
    simpa using this
  refine ⟨F, at_k (i := 1), ?_⟩
  rw [set_k (i := 1)]
  walk_at "ev"
  simp only [List.append_assoc, List.length_append, List.length_cons, List.length_nil, List.cons_append, List.nil_append, List.set_cons_succ, List.set_cons_zero]
  refine ⟨_, rdD rd, rfl, at_k (i := 3), ?_⟩
  rw [set_k (i := 3)]
  show W (compS _ _ (st ++ [.lst (F.map pairD), .dtt false F, .lst (F.map fun m => D.tup [keyD m.1, .int 0]), .dtt true (rdD rd), .lst []])) _
  refine w_compS (by simp [rdD]; omega) (fun i acc st' => acc = ((rd.take i).filter fun q => decide (q.2 = 0)).map (fun q => keyD q.1) ∧ st' = st ++ [.lst (F.map pairD), .dtt false F, .lst (F.map fun m => D.tup [keyD m.1, .int 0]), .dtt true (rdD rd), .lst []]) ⟨rfl, rfl⟩ (fun i x acc st' hx ⟨ea, es⟩ => ?_) (fun acc st' ⟨ea, es⟩ => ?_)
  · subst ea es
    unfold rdD at hx
    rw [List.getElem?_map, List.getElem?_map] at hx
    cases hm : rd[i]? with
    | none => rw [hm] at hx; cases hx
    | some m =>
      rw [hm] at hx
      cases hx
      have e3 : rd.take (i + 1) = rd.take i ++ [m] := by rw [List.take_succ, hm]; rfl
      refine w_pairF ?_
      walk_at "ev"
      refine ⟨_, rfl, fun hb => ?_, fun hb => ?_⟩
      · walk_at "ev"
        refine ⟨?_, rfl⟩
        rw [e3, List.filter_append, List.filter_cons, if_pos hb, List.map_append]
        rfl
      · refine ⟨?_, rfl⟩
        rw [e3, List.filter_append, List.filter_cons, if_neg (by rw [hb]; decide), List.map_append]
        simp
  subst ea es
  have htk : rd.take ((rdD rd).map fun kv => D.tup [keyD kv.1, kv.2]).length = rd := by
    rw [List.length_map, rdD_len, List.take_length]
  rw [htk]
  refine ⟨rdD rd, ?_, ?_⟩
  · simp only [List.append_assoc]
    exact at_k (i := 3)
  simp only [List.append_assoc, List.length_append, List.length_cons, List.length_nil, List.cons_append, List.nil_append]
  rw [set_k (i := 3)]
  walk_at "ev"
  have hnr : (Cb.keys rd).Nodup := by rw [hk]; exact hF.nd
  have hfr : (rd.filter fun q => decide (q.2 = 0)).map (fun q => keyD q.1) = ((rd.filter fun q => decide (q.2 = 0)).map (·.1)).map keyD := by rw [List.map_map]; rfl
  have key := s_moves2 (k := k) (st := st) (Q := Q) (l1 := .lst (F.map pairD)) (l2 := .lst (F.map fun m => D.tup [keyD m.1, .int 0])) (F := F) (rd := rd) (fr := (rd.filter fun q => decide (q.2 = 0)).map (·.1)) (n := n) (sp := sp) (x := x) hF
    (fun p d e => hp.vs _ (by rw [← hFd] at e; exact (mvd_mem e).1)) (by omega) hok hsp' (Cb.Ph1.start hF.nd hk hc (hnr.sublist (List.Sublist.map _ List.filter_sublist)) fun q => ?_) h
  · unfold so at key
    rw [← hfr] at key
    exact key
  · constructor
    · intro z
      obtain ⟨m, hm, e⟩ := List.mem_map.mp z
      obtain ⟨hm1, hm2⟩ := List.mem_filter.mp hm
      have hl := Cb.look_mem hnr (k := m.1) (a := m.2) hm1
      have hm2 : m.2 = 0 := by simpa using hm2
      rw [← e]
      refine ⟨by rw [← hk]; exact Cb.look_key hl, ?_⟩
      rw [← hc _ _ hl]; exact hm2
    · rintro ⟨z1, z2⟩
      obtain ⟨c, e⟩ := Cb.look_in (kvs := rd) (by rw [hk]; exact z1)
      have := hc _ _ e
      refine List.mem_map.mpr ⟨(q, c), List.mem_filter.mpr ⟨Cb.look_some e, by simp; omega⟩, rfl⟩
end
noncomputable def seenD (Sn : List P) : List (P × D) := Sn.map fun p => (p, .bl true)
theorem keys_seen (Sn : List P) : Cb.keys (seenD Sn) = Sn := by
  induction Sn with
  | nil => rfl
  | cons p r ih => show p :: Cb.keys (seenD r) = p :: r; rw [ih]
theorem put_seen {Sn : List P} {p : P} (h : p ∉ Sn) : Cb.put (seenD Sn) p (.bl true) = seenD (Sn ++ [p]) := by
  rw [Cb.put_new (by rw [keys_seen]; exact h)]
  unfold seenD; rw [List.map_append]; rfl
theorem any_ln {st : Sto} {d : D} (hd : VS d) : ∀ {ln : List P}, (∀ p ∈ ln, ok p) → anyEq st d (ln.map keyD) = some (ln.any fun p => decide (sy.qk d = p))
  | [], _ => rfl
  | p :: ln, h => by
    rw [List.map_cons, anyEq, eq_ps (h p (by simp)) hd, any_ln hd fun q hq => h q (by simp [hq]), List.any_cons]
theorem VS.keyOf {d : D} (h : VS d) (hk : ok (sy.qk d)) : d = keyD (sy.qk d) := by
  cases hi : isPl d with
  | true => exact (h.of_pl hi).1
  | false => exact absurd hk (h.cn hi)
noncomputable def so2 (st : Sto) (l1 : O) (F : List (P × D)) (Sn : List P) (t : Sto) : Sto := st ++ (l1 :: .dtt true F :: .dtt false (seenD Sn) :: t)
section
variable {k : Nat} {st : Sto} {Q : D → Sto → Prop} {prs F : List (P × D)} {l1 : O} {Sn : List P} {t : Sto}
theorem r1 : (so2 st l1 F Sn t)[st.length + 1]? = some (.dtt true F) := at_k
theorem r2 : (so2 st l1 F Sn t)[st.length + 2]? = some (.dtt false (seenD Sn)) := at_k
theorem r3 {o : O} : (so2 st l1 F Sn (t ++ [o]))[st.length + (t.length + 3)]? = some o := by
  unfold so2
  rw [at_k]
  show (t ++ [o])[t.length]? = some o
  simp
theorem rs2 {Sn' : List P} : (so2 st l1 F Sn t).set (st.length + 2) (.dtt false (seenD Sn')) = so2 st l1 F Sn' t := set_k
theorem rs3 {o o' : O} : (so2 st l1 F Sn (t ++ [o])).set (st.length + (t.length + 3)) o' = so2 st l1 F Sn (t ++ [o']) := by
  unfold so2
  rw [set_k]
  show st ++ (l1 :: .dtt true F :: .dtt false (seenD Sn) :: (t ++ [o]).set t.length o') = _
  simp
theorem so2_len : (so2 st l1 F Sn t).length = st.length + (t.length + 3) := by simp [so2]
theorem so2_app {o : O} : so2 st l1 F Sn t ++ [o] = so2 st l1 F Sn (t ++ [o]) := by simp [so2]
theorem s_rings {n : Nat} (hp : Prs prs) (hn : st[n]? = some (.lst (prs.map pairD)))
    (h : ∀ (st' : Sto) (R : List P), Gr st st' → Cb.Reps (sy.nx (mvd prs)) R → Q (.int R.length) st') : Wv (calls tab (k + 1) i__law_rings [.ref n] st) Q := by
  have hF := mvd_good hp
  have h8 := mvd_len hp
  generalize hFd : mvd prs = F at *
  have hvs : ∀ p d, Cb.look F p = some d → VS d := fun p d e => hp.vs _ (by rw [← hFd] at e; exact (mvd_mem e).1)
  walk_at "call"
  refine ⟨n, rfl, comp_moved (prs := prs) pairD hp hn (fun m st Q q => ?_) ?_⟩
  · walk_at "ev"
    exact q
  rw [hFd]
  refine ⟨_, _, F, rfl, at_new, pairs_map F, by simp; omega, ?_⟩
  rw [fillT_eq hF.nd]
  walk_at "ev"
  simp only [List.append_assoc, List.length_append, List.length_cons, List.length_nil, List.cons_append, List.nil_append, List.set_cons_succ, List.set_cons_zero]
  refine ⟨_, rfl, w_walkF (kvs := F) (at_k (i := 1)) (fun i loc st' => ∃ (Sn R : List P) (t : Sto) (x y z : Option D), Cb.Rn sy F Sn R ∧ (∀ p ∈ Cb.keys (F.take i), p ∈ Sn) ∧ st' = so2 st (.lst (F.map pairD)) F Sn t ∧ loc = [some (.ref n), some (.ref (st.length + 1)), some (.ref (st.length + 2)), some (.int R.length), x, y, z]) ?_ ?_ ?_⟩
  · exact ⟨[], [], [], none, none, none, Cb.Rn.start, (fun p hp => nomatch hp), by rw [set_k (i := 1)]; rfl, rfl⟩
  · rintro i m loc st1 hm ⟨Sn, R, t, x, y, z, hR, hin, e1, e2⟩
    subst e1 e2
    have e3 : F.take (i + 1) = F.take i ++ [m] := by rw [List.take_succ, hm]; rfl
    have hmF : Cb.look F m.1 = some m.2 := Cb.look_mem hF.nd (List.mem_of_getElem? hm)
    have hmk := Cb.look_key hmF
    have hmo : ok m.1 := hF.okk _ hmk
    have hll : ∀ (ln : List P) (h : P), Cb.Wk sy F Sn m.1 ln h → (Sn ++ ln).length ≤ F.length := fun ln h w => by
      have := Cb.len_sub w.nd (ys := Cb.keys F) fun p hp => (List.mem_append.mp hp).elim (hR.sd p) (w.sd p)
      simpa using this
    simp only [List.set_cons_succ, List.set_cons_zero]
    walk_at "ev"
    simp only [so2_len, so2_app, List.set_cons_succ, List.set_cons_zero]
    refine w_whil (fun mm loc st' => ∃ (ln : List P) (d : D), Cb.Wk sy F Sn m.1 ln (sy.qk d) ∧ VS d ∧ st' = so2 st (.lst (F.map pairD)) F (Sn ++ ln) (t ++ [.lst (ln.map keyD)]) ∧ mm = F.length - (Sn ++ ln).length ∧ loc = [some (.ref n), some (.ref (st.length + 1)), some (.ref (st.length + 2)), some (.int R.length), some (keyD m.1), some (.ref (st.length + (t.length + 3))), some d]) (F.length - (Sn ++ []).length) (by omega)
      ⟨[], keyD m.1, by rw [qk_keyD]; exact Cb.Wk.start hR.nd m.1, .pl hmo, by rw [List.append_nil]; rfl, rfl, rfl⟩ ?_
    rintro mm loc st1 ⟨ln, d, hW, hv, e1, e2, e4⟩
    subst e1 e2 e4
    have hlen := hll _ _ hW
    have exit : (sy.qk d ∉ Cb.keys F ∨ sy.qk d ∈ Sn ++ ln) → W (execs (calls tab k) [.ite (.cmp .In (.v 6) (.v 5)) [.set 3 (.bin .add (.v 3) (.c (.int 1)))] []] [some (.ref n), some (.ref (st.length + 1)), some (.ref (st.length + 2)), some (.int R.length), some (keyD m.1), some (.ref (st.length + (t.length + 3))), some d] (so2 st (.lst (F.map pairD)) F (Sn ++ ln) (t ++ [.lst (ln.map keyD)])))
        (fun r st1 => match r with | .nx loc' => ∃ (Sn R : List P) (t : Sto) (x y z : Option D), Cb.Rn sy F Sn R ∧ (∀ p ∈ Cb.keys (F.take (i + 1)), p ∈ Sn) ∧ st1 = so2 st (.lst (F.map pairD)) F Sn t ∧ loc' = [some (.ref n), some (.ref (st.length + 1)), some (.ref (st.length + 2)), some (.int R.length), x, y, z] | _ => False) := by
      intro he
      obtain ⟨hs1, hs2⟩ := Cb.Rn.step hR hW hmk he
      have hall : ∀ p ∈ Cb.keys (F.take (i + 1)), p ∈ Sn ++ ln := fun p hp => by
        rw [e3, Cb.keys, List.map_append] at hp
        rcases List.mem_append.mp hp with hp | hp
        · exact List.mem_append.mpr (.inl (hin p hp))
        · have : p = m.1 := by simpa using hp
          rw [this]; exact hs1
      walk_at "ev"
      have hany := any_ln (st := so2 st (.lst (F.map pairD)) F (Sn ++ ln) (t ++ [.lst (ln.map keyD)])) hv (ln := ln) fun p hp => hF.okk _ (hW.sd p hp)
      show W (cmpop .In d (.ref (st.length + (t.length + 3))) _) _
      simp only [cmpop, seqOf, r3, hany]
      refine ⟨_, rfl, fun hb => ?_, fun hb => ?_⟩
      · have hb : sy.qk d ∈ ln := by simpa using hb
        walk_at "ev"
        rw [if_pos hb] at hs2
        have e5 : ((R ++ [sy.qk d]).length : Int) = R.length + 1 := by simp
        exact ⟨_, _, _, some (keyD m.1), some (.ref (st.length + (t.length + 3))), some d, hs2, hall, rfl, by rw [e5]; rfl⟩
      · have hb : sy.qk d ∉ ln := fun z => by
          have : (ln.any fun p => decide (sy.qk d = p)) = true := List.any_eq_true.mpr ⟨_, z, by simp⟩
          rw [this] at hb; cases hb
        walk_at "ev"
        rw [if_neg hb] at hs2
        exact ⟨_, _, _, _, _, _, hs2, hall, rfl, rfl⟩
    walk_at "ev"
    refine ⟨_, _, _, _, rfl, r1, hv.q, ?_⟩
    rw [if_neg (by decide), Cb.look_isSome]
    refine ⟨_, rfl, fun hq => ?_, fun hq => ?_⟩
    · have hq : sy.qk d ∈ Cb.keys F := by simpa using hq
      walk_at "ev"
      refine ⟨_, _, _, _, rfl, r2, hv.q, ?_⟩
      rw [if_pos rfl, Cb.look_isSome, keys_seen]
      refine ⟨_, rfl, fun hq2 => ?_, fun hq2 => ?_⟩
      · have hq2 : sy.qk d ∉ Sn ++ ln := by simpa using hq2
        obtain ⟨d', hd'⟩ := Cb.look_in hq
        have hkd := hv.keyOf (hF.okk _ hq)
        have hkey : key? d = some (sy.qk d) := by rw [hkd, qk_keyD]; exact key_keyD _
        have hW' := Cb.Wk.step hW hd' hq2
        have hlen' := hll _ _ hW'
        simp at hlen hlen'
        refine ⟨F.length - (Sn ++ (ln ++ [sy.qk d])).length, by simp; omega, ?_⟩
        walk_at "ev"
        refine ⟨_, _, _, rfl, r2, hkey, by simp [seenD]; omega, ?_⟩
        rw [put_seen hq2, rs2]
        walk_at "ev"
        refine w_lstOk r3 ?_
        walk_at "ev"
        refine w_append r3 (by simp; omega) ?_
        rw [rs3]
        walk_at "ev"
        refine ⟨_, _, _, _, d', rfl, r1, hkey, hd', ?_⟩
        walk_at "ev"
        refine ⟨ln ++ [sy.qk d], d', hW', hvs _ _ hd', ?_, rfl, rfl⟩
        rw [List.append_assoc, List.map_append, List.map_singleton, ← hkd]
      · have hq2 : sy.qk d ∈ Sn ++ ln := by simpa using hq2
        exact exit (.inr hq2)
    · have hq : sy.qk d ∉ Cb.keys F := by simpa using hq
      exact ⟨false, rfl, nofun, fun _ => exit (.inl hq)⟩
  · rintro loc st1 ⟨Sn, R, t, x, y, z, hR, hin, e1, e2⟩
    subst e1 e2
    rw [List.take_length] at hin
    refine ⟨F, r1, ?_⟩
    walk_at "ev"
    refine h _ R ?_ (hR.reps hin)
    unfold so2
    rw [set_k (i := 1)]
    exact ⟨_, rfl⟩
end
noncomputable def Ten : List P := [pk2 "reg" 0, pk2 "reg" 1, pk2 "reg" 2, pk2 "reg" 3, pk2 "frame" 0, pk2 "frame" 1, pk2 "frame" 2, pk2 "frame" 3, pk2 "frame" 4, pk2 "frame" 5]
theorem ten_ok : ∀ p ∈ Ten, ok p := fun p hp => by
  simp only [Ten, List.mem_cons, List.not_mem_nil, or_false] at hp
  rcases hp with h | h | h | h | h | h | h | h | h | h <;> subst h <;> first | exact ⟨_, _, .inl rfl, rfl⟩ | exact ⟨_, _, .inr rfl, rfl⟩
theorem ten_nd : Ten.Nodup := by
  have hn : ¬ (("reg" : Str) = "frame") := by decide +kernel
  simp [Ten, pk2_inj, hn]
theorem ten_sp {j : Int} (hj : 4 ≤ j) : pk2 "reg" j ∉ Ten := fun h => by
  simp only [Ten, List.mem_cons, List.not_mem_nil, or_false, pk2_inj] at h
  have hn : ¬ (("reg" : Str) = "frame") := by decide +kernel
  rcases h with h | h | h | h | h | h | h | h | h | h <;> first | exact hn h.1 | (have := h.2; omega)
theorem erase_perm {α : Type} : ∀ {xs : List α} {j : Nat} {p : α}, xs[j]? = some p → (p :: xs.eraseIdx j).Perm xs
  | [], j, p, h => by simp at h
  | x :: xs, 0, p, h => by cases h; exact List.Perm.refl _
  | x :: xs, j + 1, p, h => (List.Perm.swap x p (xs.eraseIdx j)).trans ((erase_perm (xs := xs) (j := j) (by simpa using h)).cons x)
theorem erase_map {α β : Type} {f : α → β} : ∀ (xs : List α) (j : Nat), (xs.map f).eraseIdx j = (xs.eraseIdx j).map f
  | [], j => by simp
  | x :: xs, 0 => rfl
  | x :: xs, j + 1 => by rw [List.map_cons, List.eraseIdx_cons_succ, List.eraseIdx_cons_succ, List.map_cons, erase_map xs j]
structure Pl (n : Nat) (st st' : Sto) (pl : List P) (prs : List (P × D)) : Prop where
  le : st.length + 5 ≤ st'.length
  same : ∀ i, i < st.length → i ≠ n → st'[i]? = st[i]?
  box : LB st' n
  lt : n < st.length
  e2 : st'[st.length + 2]? = some (.lst (pl.map keyD))
  e3 : st'[st.length + 3]? = some (.lst (Ten.map keyD))
  e4 : st'[st.length + 4]? = some (.lst (prs.map pairD))
section
variable {n : Nat} {st st' st2 : Sto} {pl pl' : List P} {prs prs' : List (P × D)}
theorem Pl.lp (h : Pl n st st' pl prs) (k : Lp n st' st2) : Pl n st st2 pl prs := by
  have := h.lt
  have := h.le
  exact ⟨Nat.le_trans h.le k.le, fun i hi hn => (k.same i (by omega) hn).trans (h.same i hi hn), k.box, h.lt, k.at h.e2 (by omega), k.at h.e3 (by omega), k.at h.e4 (by omega)⟩
theorem Pl.more (h : Pl n st st' pl prs) (o : O) : Pl n st (st' ++ [o]) pl prs := h.lp ((Lp.refl h.box).more o)
theorem Pl.set2 (h : Pl n st st' pl prs) : Pl n st (st'.set (st.length + 2) (.lst (pl'.map keyD))) pl' prs := by
  have := h.lt
  have := h.le
  refine ⟨by rw [List.length_set]; exact h.le, fun i hi hn => ?_, ?_, h.lt, set_at (by omega), ?_, ?_⟩
  · rw [List.getElem?_set_ne (by omega)]; exact h.same i hi hn
  · obtain ⟨ns, e⟩ := h.box; exact ⟨ns, by rw [List.getElem?_set_ne (by omega)]; exact e⟩
  · rw [List.getElem?_set_ne (by omega)]; exact h.e3
  · rw [List.getElem?_set_ne (by omega)]; exact h.e4
theorem Pl.set4 (h : Pl n st st' pl prs) : Pl n st (st'.set (st.length + 4) (.lst (prs'.map pairD))) pl prs' := by
  have := h.lt
  have := h.le
  refine ⟨by rw [List.length_set]; exact h.le, fun i hi hn => ?_, ?_, h.lt, ?_, ?_, set_at (by omega)⟩
  · rw [List.getElem?_set_ne (by omega)]; exact h.same i hi hn
  · obtain ⟨ns, e⟩ := h.box; exact ⟨ns, by rw [List.getElem?_set_ne (by omega)]; exact e⟩
  · rw [List.getElem?_set_ne (by omega)]; exact h.e2
  · rw [List.getElem?_set_ne (by omega)]; exact h.e3
structure Pg (i : Nat) (pl : List P) (prs : List (P × D)) : Prop where
  nd : (pl ++ Cb.keys prs).Nodup
  ten : ∀ p ∈ pl ++ Cb.keys prs, p ∈ Ten
  l1 : pl.length + i = 10
  l2 : prs.length = i
  vs : ∀ m ∈ prs, VS m.2
theorem Pg.step {i j : Nat} {p : P} {d : D} (h : Pg i pl prs) (hj : pl[j]? = some p) (hd : VS d) : Pg (i + 1) (pl.eraseIdx j) (prs ++ [(p, d)]) := by
  obtain ⟨hlt, e⟩ := List.getElem?_eq_some_iff.mp hj
  have hp : (p :: pl.eraseIdx j).Perm pl := erase_perm hj
  have hk : Cb.keys (prs ++ [(p, d)]) = Cb.keys prs ++ [p] := by simp [Cb.keys]
  have hq : (pl.eraseIdx j ++ (Cb.keys prs ++ [p])).Perm (pl ++ Cb.keys prs) := by
    refine List.Perm.trans ?_ (List.Perm.append_right _ hp)
    rw [← List.append_assoc]
    exact List.perm_append_comm
  refine ⟨by rw [hk]; exact hq.nodup_iff.mpr h.nd, fun q hq' => by rw [hk] at hq'; exact h.ten q (hq.mem_iff.mp hq'), ?_, by simp [h.l2], fun m hm => ?_⟩
  · have := h.l1
    rw [List.length_eraseIdx_of_lt hlt]; omega
  · rcases List.mem_append.mp hm with hm | hm
    · exact h.vs m hm
    · have : m = (p, d) := by simpa using hm
      subst this; exact hd
theorem Pg.put {i j : Nat} {m : P × D} {d : D} (h : Pg i pl prs) (hj : prs[j]? = some m) (hd : VS d) : Pg i pl (prs.set j (m.1, d)) := by
  have hk : Cb.keys (prs.set j (m.1, d)) = Cb.keys prs := by
    refine List.ext_getElem? fun x => ?_
    rw [Cb.keys, Cb.keys, List.getElem?_map, List.getElem?_map]
    by_cases e : j = x
    · subst e; rw [List.getElem?_set_self (List.getElem?_eq_some_iff.mp hj).1, hj]; rfl
    · rw [List.getElem?_set_ne e]
  refine ⟨by rw [hk]; exact h.nd, by rw [hk]; exact h.ten, h.l1, by simp [h.l2], fun x hx => ?_⟩
  rcases List.mem_or_eq_of_mem_set hx with z | z
  · exact h.vs x z
  · subst z; exact hd
theorem Pg.toPrs {i : Nat} (h : Pg i pl prs) (hi : i ≤ 8) : Prs prs ∧ ∀ p ∈ Cb.keys prs, p ∈ Ten := by
  have hn := h.nd
  rw [List.nodup_append] at hn
  have ht : ∀ p ∈ Cb.keys prs, p ∈ Ten := fun p hp => h.ten p (List.mem_append.mpr (.inr hp))
  exact ⟨⟨hn.2.1, fun m hm => ten_ok _ (ht _ (List.mem_map.mpr ⟨m, hm, rfl⟩)), h.vs, by rw [h.l2]; exact hi⟩, ht⟩
theorem Pg.okAt {i j : Nat} {m : P × D} (h : Pg i pl prs) (hj : prs[j]? = some m) : ok m.1 :=
  ten_ok _ (h.ten _ (List.mem_append.mpr (.inr (List.mem_map.mpr ⟨m, List.mem_of_getElem? hj, rfl⟩))))
end
section
variable {k : Nat} {st : Sto} {Q : D → Sto → Prop}
theorem comp_rng {g : Fns} {loc : Loc} {m : Nat} (w : Str) (hm : m ≤ 1000) (h : Q (.ref st.length) (st ++ [.lst ((rangeD m).map fun d => .tup [.str w, d])])) :
    W (compS (fun x => bnd (run g (.tup [.c (.str w), .v 0]) (some x :: loc)) fun y => ret (some y)) (.its (rangeD m)) st) Q := by
  refine w_compS (by rw [rangeD_len]; omega) (fun i acc st' => acc = ((rangeD m).take i).map (fun d => D.tup [.str w, d]) ∧ st' = st) ⟨rfl, rfl⟩ (fun i x acc st' hx ⟨ea, es⟩ => ?_) (fun acc st' ⟨ea, es⟩ => ?_)
  · subst ea es
    have e3 : (rangeD m).take (i + 1) = (rangeD m).take i ++ [x] := by rw [List.take_succ, hx]; rfl
    refine w_elt ?_
    walk_at "ev"
    rw [e3, List.map_append]
    exact ⟨rfl, rfl⟩
  · subst ea es
    rw [List.take_length]
    exact h
theorem pl_start {n : Nat} (hb : LB st n) : Pl n st (st ++ [.lst ((rangeD 4).map fun d => .tup [.str "reg", d]), .lst ((rangeD 6).map fun d => .tup [.str "frame", d]), .lst (Ten.map keyD), .lst (Ten.map keyD), .lst []]) Ten [] := by
  refine ⟨by simp, fun i hi _ => by rw [List.getElem?_append_left hi], ?_, hb.lt, at_k, at_k, at_k⟩
  obtain ⟨ns, e⟩ := hb
  exact ⟨ns, at_old e⟩
theorem pg_start : Pg 0 Ten [] := ⟨by simpa using ten_nd, by simp, rfl, rfl, (fun m hm => nomatch hm)⟩
theorem ix_pl {pl : List P} {i : Int} (h0 : 0 ≤ i) (h1 : i < pl.length) : ∃ p, pl[i.toNat]? = some p ∧ (pl.map keyD)[i.toNat]? = some (keyD p) ∧ atI (pl.map keyD) i = some (keyD p) := by
  obtain ⟨d, e1, e2⟩ := atI_in (xs := pl.map keyD) h0 (by simpa using h1)
  have hlt : i.toNat < pl.length := by omega
  have e3 : pl[i.toNat]? = some pl[i.toNat] := List.getElem?_eq_getElem hlt
  have e4 : (pl.map keyD)[i.toNat]? = some (keyD pl[i.toNat]) := by rw [List.getElem?_map, e3]; rfl
  rw [e4] at e2
  cases e2
  exact ⟨_, e3, e4, e1⟩
theorem ix_prs {prs : List (P × D)} {i : Int} (h0 : 0 ≤ i) (h1 : i < prs.length) : ∃ m, prs[i.toNat]? = some m ∧ atI (prs.map pairD) i = some (pairD m) := by
  obtain ⟨d, e1, e2⟩ := atI_in (xs := prs.map pairD) h0 (by simpa using h1)
  have hlt : i.toNat < prs.length := by omega
  have e3 : prs[i.toNat]? = some prs[i.toNat] := List.getElem?_eq_getElem hlt
  have e4 : (prs.map pairD)[i.toNat]? = some (pairD prs[i.toNat]) := by rw [List.getElem?_map, e3]; rfl
  rw [e4] at e2
  cases e2
  exact ⟨_, e3, e1⟩
theorem ixN_in {n : Nat} {i : Int} (h0 : 0 ≤ i) (h1 : i < n) : ixN n i = some i.toNat := by
  unfold ixN; rw [if_pos h0, if_pos h1]
theorem pair_ix0 {m : P × D} : atI [keyD m.1, m.2] 0 = some (keyD m.1) := rfl
theorem s_pairs {n : Nat} (hb : LB st n) (h : ∀ (p : Nat) (st' : Sto) (prs : List (P × D)), st.length ≤ p → Lp n st st' → st'[p]? = some (.lst (prs.map pairD)) → Prs prs → (∀ q ∈ Cb.keys prs, q ∈ Ten) → Q (.ref p) st') :
    Wv (calls tab (k + 2) i__law_pairs [.ref n] st) Q := by
  walk_at "call"
  refine ⟨_, source_rng (by decide), comp_rng (m := 4) "reg" (by decide) ?_⟩
  walk_at "ev"
  refine ⟨_, source_rng (by decide), comp_rng (m := 6) "frame" (by decide) ?_⟩
  simp only [List.append_assoc, List.length_append, List.length_cons, List.length_nil, List.cons_append, List.nil_append]
  refine w_catL (at_k (i := 0)) (at_k (i := 1)) (by simp [rangeD_len]) ?_
  rw [show (rangeD 4).map (fun d => D.tup [.str "reg", d]) ++ (rangeD 6).map (fun d => D.tup [.str "frame", d]) = Ten.map keyD from rfl]
  walk_at "ev"
  simp only [List.append_assoc, List.length_append, List.length_cons, List.length_nil, List.cons_append, List.nil_append, List.set_cons_succ, List.set_cons_zero]
  refine w_listL (at_k (i := 2)) ?_
  walk_at "ev"
  simp only [List.append_assoc, List.length_append, List.length_cons, List.length_nil, List.cons_append, List.nil_append, List.set_cons_succ, List.set_cons_zero]
  have hP0 := pl_start (st := st) hb
  refine w_for (fun _ i loc st' => ∃ (pl : List P) (prs : List (P × D)) (a b c d : Option D), Pl n st st' pl prs ∧ Pg i pl prs ∧ loc = [some (.ref n), some (.ref (st.length + 2)), some (.ref (st.length + 3)), some (.ref (st.length + 4)), a, b, c, d, none, none]) ?_
  walk_at "ev"
  refine s_take hP0.box fun v st1 L1 => ?_
  have hP1 := hP0.lp L1
  walk_at "ev"
  have hv9 : 0 ≤ v % 9 ∧ v % 9 < 9 := ⟨Int.emod_nonneg _ (by decide), Int.emod_lt_of_pos _ (by decide)⟩
  refine ⟨_, source_rng (by omega), ⟨Ten, [], none, none, none, none, hP1, pg_start, rfl⟩, ?_, ?_⟩
  · rintro i x loc st2 hx ⟨pl, prs, a, b, c, d, hP, hG, e1⟩
    subst e1
    clear hP1 L1 hP0
    have hi : i < 8 := by
      have := (List.getElem?_eq_some_iff.mp hx).1
      rw [rangeD_len] at this
      omega
    have hl1 := hG.l1
    have hl2 := hG.l2
    simp only [List.set_cons_succ, List.set_cons_zero]
    walk_at "ev"
    refine ⟨_, _, rfl, hP.e2, ?_⟩
    walk_at "ev"
    refine s_take hP.box fun u st3 L3 => ?_
    have hP3 := hP.lp L3
    walk_at "ev"
    refine w_lenL hP3.e2 ?_
    walk_at "ev"
    rw [List.length_map]
    refine w_mod (by omega) ?_
    have hu : 0 ≤ u % (pl.length : Int) ∧ u % (pl.length : Int) < pl.length := ⟨Int.emod_nonneg _ (by omega), Int.emod_lt_of_pos _ (by omega)⟩
    obtain ⟨p, hp1, hp2, _⟩ := ix_pl hu.1 hu.2
    refine ⟨_, _, keyD p, rfl, hP3.e2, hu.1, hp2, ?_⟩
    rw [show (pl.map keyD).eraseIdx (u % (pl.length : Int)).toNat = (pl.eraseIdx (u % (pl.length : Int)).toNat).map keyD from erase_map ..]
    have hP4 := hP3.set2 (pl' := pl.eraseIdx (u % (pl.length : Int)).toNat)
    generalize hst4 : st3.set (st.length + 2) (.lst ((pl.eraseIdx (u % (pl.length : Int)).toNat).map keyD)) = st4 at hP4 ⊢
    clear hst4
    walk_at "ev"
    refine s_take hP4.box fun w st5 L5 => ?_
    have hP5 := hP4.lp L5
    walk_at "ev"
    have hw : 0 ≤ w / 8 % 10 ∧ w / 8 % 10 < 10 := ⟨Int.emod_nonneg _ (by decide), Int.emod_lt_of_pos _ (by decide)⟩
    obtain ⟨q, hq1, _, hq2⟩ := ix_pl (pl := Ten) hw.1 (by exact hw.2)
    refine w_ixL hP5.e3 hq2 ?_
    have hqo : ok q := ten_ok _ (List.mem_of_getElem? hq1)
    simp only [List.set_cons_succ, List.set_cons_zero]
    have tail : ∀ (src : D) (st6 : Sto), VS src → Pl n st st6 (pl.eraseIdx (u % (pl.length : Int)).toNat) prs → W (execs (calls tab (k + 1)) [.app (.v 3) (.tup [.v 5, .v 7])] [some (.ref n), some (.ref (st.length + 2)), some (.ref (st.length + 3)), some (.ref (st.length + 4)), some x, some (keyD p), some (.int w), some src, none, none] st6)
        (Kf (fun loc st' => ∃ (pl : List P) (prs : List (P × D)) (a b c d : Option D), Pl n st st' pl prs ∧ Pg (i + 1) pl prs ∧ loc = [some (.ref n), some (.ref (st.length + 2)), some (.ref (st.length + 3)), some (.ref (st.length + 4)), a, b, c, d, none, none]) (Kn (calls tab (k + 1)) (f__law_pairs.body.drop 4) (Kr Q))) := by
      intro src st6 hs hP6
      walk_at "ev"
      refine w_lstOk hP6.e4 ?_
      walk_at "ev"
      refine w_append hP6.e4 (by simp; omega) ?_
      walk_at "ev"
      refine ⟨pl.eraseIdx (u % (pl.length : Int)).toNat, prs ++ [(p, src)], some x, some (keyD p), some (.int w), some src, ?_, hG.step hp1 hs, rfl⟩
      have := hP6.set4 (prs' := prs ++ [(p, src)])
      rw [List.map_append] at this
      exact this
    walk_at "ev"
    refine ⟨_, rfl, fun hz => ?_, fun hz => ?_⟩
    · walk_at "ev"
      have hw3 : 0 ≤ w / 16 % 3 ∧ w / 16 % 3 < 3 := ⟨Int.emod_nonneg _ (by decide), Int.emod_lt_of_pos _ (by decide)⟩
      refine w_ixAny at_new hw3.1 (by exact hw3.2) fun d hd _ => ?_
      have hvd : VS d := by
        simp only [List.mem_cons, List.not_mem_nil, or_false] at hd
        rcases hd with rfl | rfl | rfl
        · exact .num _
        · exact .tr _
        · exact .num _
      simp only [List.set_cons_succ, List.set_cons_zero]
      refine w_snil ?_
      exact tail _ _ hvd (hP5.more _)
    · refine w_if ?_
      walk_at "ev"
      refine ⟨_, rfl, fun hz2 => ?_, fun hz2 => ?_⟩
      · walk_at "ev"
        refine w_ne (eqL_nil (at_old hP5.e4) at_new) ⟨_, rfl, fun hz3 => ?_, fun hz3 => ?_⟩
        · have hne : 0 < prs.length := by
            cases prs with
            | nil => simp at hz3
            | cons a b => simp
          have hP7 := hP5.more (.lst [])
          walk_at "ev"
          refine w_lenL hP7.e4 ?_
          rw [List.length_map]
          refine w_mod (by omega) ?_
          have hw8 : 0 ≤ w / 8 % (prs.length : Int) ∧ w / 8 % (prs.length : Int) < prs.length := ⟨Int.emod_nonneg _ (by omega), Int.emod_lt_of_pos _ (by omega)⟩
          obtain ⟨m, hm1, hm2⟩ := ix_prs hw8.1 hw8.2
          refine w_ixL hP7.e4 hm2 ?_
          walk_at "ev"
          refine w_ixT pair_ix0 ?_
          simp only [List.set_cons_succ, List.set_cons_zero]
          refine w_snil ?_
          exact tail _ _ (.pl (hG.okAt hm1)) hP7
        · refine w_snil ?_
          exact tail _ _ (.pl hqo) (hP5.more _)
      · refine ⟨false, rfl, nofun, fun _ => ?_⟩
        refine w_snil ?_
        exact tail _ _ (.pl hqo) hP5
  · rintro loc st2 ⟨pl, prs, a, b, c, d, hP, hG, e1⟩
    subst e1
    rw [rangeD_len] at hG
    generalize hN : (v % 9).toNat = N at hG
    have hN8 : N ≤ 8 := by omega
    refine w_for (fun _ i loc st' => ∃ (pl : List P) (prs : List (P × D)) (a b c d e f : Option D), Pl n st st' pl prs ∧ Pg N pl prs ∧ loc = [some (.ref n), some (.ref (st.length + 2)), some (.ref (st.length + 3)), some (.ref (st.length + 4)), a, b, c, d, e, f]) ?_
    walk_at "ev"
    refine s_take hP.box fun v2 st3 L3 => ?_
    walk_at "ev"
    have hv4 : 0 ≤ v2 % 4 ∧ v2 % 4 < 4 := ⟨Int.emod_nonneg _ (by decide), Int.emod_lt_of_pos _ (by decide)⟩
    refine ⟨_, source_rng (by omega), ⟨pl, prs, a, b, c, d, none, none, hP.lp L3, hG, rfl⟩, ?_, ?_⟩
    · clear hP hG L3
      rintro i x loc st4 hx ⟨pl, prs, a, b, c, d, e, f, hP, hG, e1⟩
      subst e1
      have hl2 := hG.l2
      simp only [List.set_cons_succ, List.set_cons_zero]
      walk_at "ev"
      refine w_lenL hP.e4 ?_
      walk_at "ev"
      refine ⟨_, rfl, fun hz => ?_, fun hz => ?_⟩
      · have hz : (1 : Int) < prs.length := by simpa using hz
        walk_at "ev"
        refine s_take hP.box fun u st5 L5 => ?_
        have hP5 := hP.lp L5
        walk_at "ev"
        refine w_lenL hP5.e4 ?_
        rw [List.length_map]
        refine w_mod (by omega) ?_
        have hu : 0 ≤ u % (prs.length : Int) ∧ u % (prs.length : Int) < prs.length := ⟨Int.emod_nonneg _ (by omega), Int.emod_lt_of_pos _ (by omega)⟩
        walk_at "ev"
        refine s_take hP5.box fun w st6 L6 => ?_
        have hP6 := hP5.lp L6
        walk_at "ev"
        refine w_lenL hP6.e4 ?_
        rw [List.length_map]
        refine w_mod (by omega) ?_
        have hw : 0 ≤ w % (prs.length : Int) ∧ w % (prs.length : Int) < prs.length := ⟨Int.emod_nonneg _ (by omega), Int.emod_lt_of_pos _ (by omega)⟩
        obtain ⟨m1, hm1, hx1⟩ := ix_prs hu.1 hu.2
        obtain ⟨m2, hm2, hx2⟩ := ix_prs hw.1 hw.2
        simp only [List.set_cons_succ, List.set_cons_zero]
        walk_at "ev"
        refine w_ixL hP6.e4 hx1 ?_
        walk_at "ev"
        refine w_ixT pair_ix0 ?_
        walk_at "ev"
        refine w_ixL hP6.e4 hx2 ?_
        walk_at "ev"
        refine w_ixT pair_ix0 ?_
        walk_at "ev"
        refine w_setitem hP6.e4 (by rw [List.length_map]; exact ixN_in hu.1 hu.2) ?_
        have hG7 := hG.put hm1 (.pl (hG.okAt hm2))
        have hP7 := hP6.set4 (prs' := prs.set (u % (prs.length : Int)).toNat (m1.1, keyD m2.1))
        rw [List.map_set] at hP7
        have hl7 : (prs.set (u % (prs.length : Int)).toNat (m1.1, keyD m2.1)).length = prs.length := List.length_set
        generalize prs.set (u % (prs.length : Int)).toNat (m1.1, keyD m2.1) = prs7 at hG7 hP7 hl7
        have hP7' : Pl n st (st6.set (st.length + 4) (.lst ((prs.map pairD).set (u % (prs.length : Int)).toNat (.tup [keyD m1.1, keyD m2.1])))) pl prs7 := hP7
        generalize st6.set (st.length + 4) (.lst ((prs.map pairD).set (u % (prs.length : Int)).toNat (.tup [keyD m1.1, keyD m2.1]))) = st7 at hP7' ⊢
        clear hP7
        obtain ⟨m3, hm3, hx3⟩ := ix_prs (prs := prs7) hu.1 (by rw [hl7]; exact hu.2)
        obtain ⟨m4, hm4, hx4⟩ := ix_prs (prs := prs7) hw.1 (by rw [hl7]; exact hw.2)
        walk_at "ev"
        refine w_ixL hP7'.e4 hx4 ?_
        walk_at "ev"
        refine w_ixT pair_ix0 ?_
        walk_at "ev"
        refine w_ixL hP7'.e4 hx3 ?_
        walk_at "ev"
        refine w_ixT pair_ix0 ?_
        walk_at "ev"
        refine w_setitem hP7'.e4 (by rw [List.length_map]; exact ixN_in hw.1 (by rw [hl7]; exact hw.2)) ?_
        walk_at "ev"
        refine ⟨pl, prs7.set (w % (prs.length : Int)).toNat (m4.1, keyD m3.1), _, _, _, _, _, _, ?_, hG7.put hm4 (.pl (hG7.okAt hm3)), rfl⟩
        have := hP7'.set4 (prs' := prs7.set (w % (prs.length : Int)).toNat (m4.1, keyD m3.1))
        rw [List.map_set] at this
        exact this
      · walk_at "ev"
        exact ⟨pl, prs, _, _, _, _, _, _, hP, hG, rfl⟩
    · clear hP hG L3
      rintro loc st4 ⟨pl, prs, a, b, c, d, e, f, hP, hG, e1⟩
      subst e1
      walk_at "ev"
      obtain ⟨hpr, hten⟩ := hG.toPrs hN8
      exact h _ _ prs (by omega) ⟨by have := hP.le; omega, hP.same, hP.box⟩ hP.e4 hpr hten
end
theorem vs_self {n : Nat} {st : Sto} {d : D} (h : VS d) : eqD (n + 2) st d d = some true := by
  cases h with
  | pl hk => rw [eq_ps hk (.pl hk), qk_keyD]; simp
  | num i => rw [eqD_tt]; simp only [allEq, eqD_ss, eqD_ii]; simp
  | tr b => rw [eqD_tt]; simp only [allEq, eqD_ss, eqD_plain (d := .bl b) rfl]; simp
theorem pair_self {n : Nat} {st : Sto} {m : P × D} (h1 : ok m.1) (h2 : VS m.2) : eqD (n + 3) st (pairD m) (pairD m) = some true := by
  show eqD (n + 2 + 1) st (.tup [keyD m.1, m.2]) (.tup [keyD m.1, m.2]) = _
  rw [eqD_tt]
  simp only [allEq, vs_self (.pl h1), vs_self h2]; rfl
theorem val_self {n : Nat} {st : Sto} {d : D} (h : VS d) : eqD (n + 3) st (sy.at_ sy.was d) (sy.at_ sy.was d) = some true := by
  have hw : ∀ k, sy.was k = .tup [.str "was", keyD k] := fun _ => rfl
  have hc : ∀ d, sy.cst d = .tup [.str "constant", d] := fun _ => rfl
  unfold Cb.Sys.at_
  by_cases hi : sy.isP d = true
  · rw [if_pos hi, hw, eqD_tt]
    have := (h.of_pl hi).2
    simp only [allEq, eqD_ss, vs_self (.pl this)]; simp
  · rw [if_neg hi, hc, eqD_tt]
    simp only [allEq, eqD_ss, vs_self h]; simp
theorem lists_same {st : Sto} {a b : Nat} {xs : List D} (ha : st[a]? = some (.lst xs)) (hb : st[b]? = some (.lst xs)) (h : ∀ x ∈ xs, eqD 59 st x x = some true) : eqD 60 st (.ref a) (.ref b) = some true := by
  show (match shape st (.ref a), shape st (.ref b) with
    | some (.sc x), some (.sc y) => some (eqV x y)
    | some (.t xs), some (.t ys) => allEq (eqD 59 st) xs ys
    | some (.l xs), some (.l ys) => allEq (eqD 59 st) xs ys
    | some _, some _ => some false
    | _, _ => none) = _
  simp only [shape, ha, hb]
  exact allEq_same h
noncomputable abbrev cP (p : P) (l : List P) : Nat := @List.count P instBEqOfDecidableEq p l
theorem cnt_places {st : Sto} {p : P} (hp : ok p) : ∀ {qs : List P}, (∀ q ∈ qs, ok q) → cntEq st (keyD p) (qs.map keyD) = some (cP p qs)
  | [], _ => rfl
  | q :: qs, h => by
    rw [List.map_cons, cntEq, eq_ps (h q (by simp)) (.pl hp), qk_keyD, cnt_places hp fun x hx => h x (by simp [hx])]
    show some _ = some _
    congr 1
    rw [cP, cP, @List.count_cons P instBEqOfDecidableEq]
    by_cases e : p = q
    · subst e
      rw [if_pos (by simp), if_pos (@beq_self_eq_true P instBEqOfDecidableEq _ p)]
    · rw [if_neg (by simp [e]), if_neg (fun z => e (@eq_of_beq P instBEqOfDecidableEq _ _ _ z).symm)]; rfl
section
variable {k : Nat} {st : Sto} {Q : D → Sto → Prop} {prs : List (P × D)}
theorem key_un (hp : Prs prs) {m : P × D} (hm : m ∈ prs) (hq : sy.qk m.2 = m.1) : m.1 ∉ Cb.keys (mvd prs) := fun z => by
  obtain ⟨d, e⟩ := Cb.look_in z
  obtain ⟨h1, h2⟩ := mvd_mem e
  have e1 := Cb.look_mem hp.nd (k := m.1) (a := m.2) hm
  have e2 := Cb.look_mem hp.nd h1
  rw [e1] at e2
  cases e2
  exact h2 hq
theorem key_in (hp : Prs prs) {m : P × D} (hm : m ∈ prs) (hq : sy.qk m.2 ≠ m.1) : Cb.look (mvd prs) m.1 = some m.2 :=
  Cb.look_mem (mvd_nd hp) (List.mem_filter.mpr ⟨hm, by simpa using hq⟩)
theorem val_due (hp : Prs prs) {sp : P} {ms : List (P × D)} {R : List P} (hT : Cb.Told sy (mvd prs) sp ms R) (hsp : sp ∉ Cb.keys prs) {m : P × D} (hm : m ∈ prs) : sy.vl ms m.1 = sy.at_ sy.was m.2 := by
  by_cases hq : sy.qk m.2 = m.1
  · have hk := (hp.vs m hm).keyOf (by rw [hq]; exact hp.okk m hm)
    rw [hT.un m.1 (key_un hp hm hq) (fun z => hsp (z ▸ List.mem_map.mpr ⟨m, hm, rfl⟩)), hk, hq]
    exact (sy.at_kd _ (hp.okk m hm)).symm
  · exact hT.val _ _ (key_in hp hm hq)
theorem count_due (hp : Prs prs) {sp : P} {ms : List (P × D)} {R : List P} (hT : Cb.Told sy (mvd prs) sp ms R) (hsp : sp ∉ Cb.keys prs) {m : P × D} (hm : m ∈ prs) : ((cP m.1 (ms.map (·.1)) : Nat) : Int) = if (!decide (sy.qk m.2 = m.1)) = true then 1 else 0 := by
  rw [show cP m.1 (ms.map (·.1)) = _ from hT.cn m.1 (fun z => hsp (z ▸ List.mem_map.mpr ⟨m, hm, rfl⟩))]
  by_cases hq : sy.qk m.2 = m.1
  · rw [if_neg (key_un hp hm hq), if_neg (by simp [hq])]; rfl
  · rw [if_pos (Cb.look_key (key_in hp hm hq)), if_pos (by simp [hq])]; rfl
theorem nil_was : (fun k => (Cb.look ([] : List (P × D)) k).getD (sy.was k)) = sy.was := by funext k; rfl
theorem s_right {n : Nat} {sp : P} (hp : Prs prs) (hok : ok sp) (hsp : sp ∉ Cb.keys prs) (hn : st[n]? = some (.lst (prs.map pairD))) (h : ∀ st', Q (.bl true) st') : Wv (calls tab (k + 3) i__law_right [.ref n, keyD sp] st) Q := by
  have h8 := mvd_len hp
  walk_at "call"
  refine w_listL hn ?_
  walk_at "ev"
  refine s_moves (k := k) hp hok hsp at_new fun p st1 ms R hpl G1 e1 hml hT => ?_
  have hn1 : st1[n]? = some (.lst (prs.map pairD)) := G1.at (at_old hn)
  have hh1 : st1[st.length]? = some (.lst (prs.map pairD)) := G1.at at_new
  have hpair : ∀ x ∈ prs.map pairD, eqD 59 st1 x x = some true := fun x hx => by
    obtain ⟨m, hm, rfl⟩ := List.mem_map.mp hx
    exact pair_self (hp.okk m hm) (hp.vs m hm)
  walk_at "ev"
  refine ⟨true, by simp only [isiD, e1], ?_⟩
  refine ⟨true, rfl, ⟨false, rfl, nofun, fun _ => ?_⟩⟩
  walk_at "ev"
  refine w_ne (lists_same hh1 hn1 hpair) ⟨false, rfl, nofun, fun _ => ?_⟩
  walk_at "ev"
  simp only [List.append_assoc, List.length_append, List.length_cons, List.length_nil, List.cons_append, List.nil_append, List.set_cons_succ, List.set_cons_zero]
  refine w_forA (fun _ xs i loc st' => xs = ms.map mvD ∧ ∃ (kvs : List (P × D)) (x : Option D), st' = st1 ++ [.dtt false kvs, .lst (((ms.take i).map (·.1)).map keyD)] ∧ kvs.length ≤ i ∧ (∀ q, (Cb.look kvs q).getD (sy.was q) = sy.vl (ms.take i) q) ∧ loc = [some (.ref n), some (keyD sp), some (.ref st.length), some (.ref p), some (.ref st1.length), some (.ref (st1.length + 1)), x, none, none, none, none, none]) ?_
  walk_at "ev"
  refine ⟨p, ms.map mvD, rfl, at_old e1, ⟨rfl, [], none, rfl, Nat.le_refl _, fun q => rfl, rfl⟩, ?_, ?_, ?_⟩
  · rintro i loc st' ⟨_, kvs, x, e2, _⟩
    subst e2
    exact at_old e1
  · rintro i x loc st' hx ⟨_, kvs, y, e2, hkl, hkv, e3⟩
    subst e2 e3
    rw [List.getElem?_map] at hx
    cases hm : ms[i]? with
    | none => rw [hm] at hx; cases hx
    | some m =>
      rw [hm] at hx
      cases hx
      have hi : i < ms.length := (List.getElem?_eq_some_iff.mp hm).1
      have e4 : ms.take (i + 1) = ms.take i ++ [m] := by rw [List.take_succ, hm]; rfl
      obtain ⟨hmo, hmv⟩ := hT.all m (List.mem_of_getElem? hm)
      simp only [List.set_cons_succ, List.set_cons_zero]
      walk_at "ev"
      refine ⟨true, rfl, ⟨true, rfl, ⟨false, rfl, nofun, fun _ => ?_⟩⟩⟩
      walk_at "ev"
      show W (btin .len [.tup [.str "move", keyD m.1, m.2]] _) _
      walk_at "ev"
      refine ⟨false, rfl, nofun, fun _ => ?_⟩
      walk_at "ev"
      show W (index (.tup [.str "move", keyD m.1, m.2]) (.int 0) _) _
      refine w_ixT rfl ?_
      walk_at "ev"
      refine w_ne eqD_ss ⟨_, rfl, fun hb => absurd hb (by decide +kernel), fun _ => ?_⟩
      walk_at "ev"
      show W (index (.tup [.str "move", keyD m.1, m.2]) (.int 2) _) _
      refine w_ixT rfl ?_
      walk_at "ev"
      refine s_at (k := k + 1) (at_k (i := 0)) hmv ?_
      rw [show (fun k => (Cb.look kvs k).getD (sy.was k)) = sy.vl (ms.take i) from funext hkv]
      walk_at "ev"
      show W (index (.tup [.str "move", keyD m.1, m.2]) (.int 1) _) _
      refine w_ixT rfl ?_
      refine ⟨_, _, _, rfl, at_k (i := 0), key_keyD m.1, by omega, ?_⟩
      rw [show (st1 ++ [O.dtt false kvs, .lst (((ms.take i).map (·.1)).map keyD)]).set st1.length (.dtt false (Cb.put kvs m.1 (sy.at_ (sy.vl (ms.take i)) m.2))) = st1 ++ [O.dtt false (Cb.put kvs m.1 (sy.at_ (sy.vl (ms.take i)) m.2)), .lst (((ms.take i).map (·.1)).map keyD)] from set_k (i := 0)]
      walk_at "ev"
      refine w_lstOk (at_k (i := 1)) ?_
      walk_at "ev"
      show W (index (.tup [.str "move", keyD m.1, m.2]) (.int 1) _) _
      refine w_ixT rfl ?_
      refine w_append (at_k (i := 1)) (by simp; omega) ?_
      rw [set_k (i := 1)]
      walk_at "ev"
      refine ⟨trivial, Cb.put kvs m.1 (sy.at_ (sy.vl (ms.take i)) m.2), some (mvD m), ?_, ?_, fun q => ?_, rfl⟩
      · rw [e4, List.map_append, List.map_append]; rfl
      · unfold Cb.put
        split
        · rw [List.length_map]; omega
        · rw [List.length_append]; simp; omega
      · rw [Cb.look_put, e4, sy.vl_snoc]
        by_cases hq : q = m.1
        · rw [if_pos hq, if_pos hq]; rfl
        · rw [if_neg hq, if_neg hq]; exact hkv q
  rintro loc st' ⟨_, kvs, x, e2, hkl, hkv, e3⟩
  subst e2 e3
  rw [List.length_map, List.take_length] at hkv ⊢
  rw [List.length_map] at hkl
  have hkv : (fun k => (Cb.look kvs k).getD (sy.was k)) = sy.vl ms := funext hkv
  have hallok : ∀ q ∈ ms.map (·.1), ok q := fun q hq => by
    obtain ⟨m, hm, rfl⟩ := List.mem_map.mp hq
    exact (hT.all m hm).1
  have hwl : ((ms.map (·.1)).map keyD).length ≤ 1000000 := by simp; omega
  have step : ∀ st2 : Sto, Gr (st1 ++ [O.dtt false kvs, .lst ((ms.map (·.1)).map keyD)]) st2 → st2[n]? = some (.lst (prs.map pairD)) ∧ st2[st1.length]? = some (.dtt false kvs) ∧ st2[st1.length + 1]? = some (.lst ((ms.map (·.1)).map keyD)) ∧ st2[p]? = some (.lst (ms.map mvD)) := fun st2 G =>
    ⟨G.at (at_old hn1), G.at (at_k (i := 0)), G.at (at_k (i := 1)), G.at (at_old e1)⟩
  refine w_forUA (fun _ xs i loc st' => xs = prs.map pairD ∧ Gr (st1 ++ [O.dtt false kvs, .lst ((ms.map (·.1)).map keyD)]) st' ∧ ∃ (x y z : Option D), loc = [some (.ref n), some (keyD sp), some (.ref st.length), some (.ref p), some (.ref st1.length), some (.ref (st1.length + 1)), x, y, z, none, none, none]) ?_
  walk_at "ev"
  refine ⟨n, _, rfl, at_old hn1, ⟨rfl, Gr.refl _, _, _, _, rfl⟩, ?_, ?_, ?_⟩
  · rintro i loc st2 ⟨_, G, _⟩
    exact (step st2 G).1
  · rintro i x loc st2 hx ⟨_, G, a, b, c, e3⟩
    subst e3
    rw [List.getElem?_map] at hx
    cases hm : prs[i]? with
    | none => rw [hm] at hx; cases hx
    | some m =>
      rw [hm] at hx
      cases hx
      have hmem := List.mem_of_getElem? hm
      have hmo := hp.okk m hmem
      have hmv := hp.vs m hmem
      obtain ⟨_, f2, f3, _⟩ := step st2 G
      refine ⟨[keyD m.1, m.2], rfl, rfl, ?_⟩
      simp only [setL, List.set_cons_succ, List.set_cons_zero]
      walk_at "ev"
      refine s_at (k := k + 1) f2 (.pl hmo) ?_
      rw [hkv, show keyD m.1 = sy.kd m.1 from rfl, sy.at_kd _ hmo, val_due hp hT hsp hmem]
      walk_at "ev"
      refine s_at (k := k + 1) at_new hmv ?_
      rw [nil_was]
      walk_at "ev"
      refine w_ne (val_self hmv) ⟨false, rfl, nofun, fun _ => ?_⟩
      walk_at "ev"
      refine ⟨_, _, rfl, at_old f3, ?_⟩
      walk_at "ev"
      refine ⟨_, _, at_old f3, cnt_places hmo hallok, hwl, ?_⟩
      walk_at "ev"
      refine w_ne (eq_ps hmo hmv) ?_
      walk_at "ev"
      rw [count_due hp hT hsp hmem]
      refine ⟨false, by simp, nofun, fun _ => ?_⟩
      walk_at "ev"
      exact ⟨trivial, G.more _, _, _, _, rfl⟩
  rintro loc st2 ⟨_, G, a, b, c, e3⟩
  subst e3
  obtain ⟨f1, f2, f3, f4⟩ := step st2 G
  walk_at "ev"
  refine s_rings (k := k + 1) hp f1 fun st3 R3 G3 hR3 => ?_
  have hRR : R3.length = R.length := Cb.reps_len hR3 hT.reps
  walk_at "ev"
  refine ⟨n, rfl, comp_moved (prs := prs) (fun m => keyD m.1) hp (G3.at f1) (fun m st Q q => ?_) ?_⟩
  · walk_at "ev"
    exact q
  obtain ⟨g1, _, g3, g4⟩ := step _ (G.trans (G3.more (.lst ((mvd prs).map fun m => keyD m.1))))
  walk_at "ev"
  simp only [List.set_cons_succ, List.set_cons_zero]
  refine w_lenL g4 ?_
  walk_at "ev"
  refine w_lenL at_new ?_
  walk_at "ev"
  have hlen : (((ms.map mvD).length : Nat) : Int) = (((mvd prs).map fun m => keyD m.1).length : Nat) + (R3.length : Nat) := by
    have := hT.len; simp; omega
  refine ⟨false, by rw [hlen]; simp, nofun, fun _ => ?_⟩
  walk_at "ev"
  refine ⟨_, _, rfl, g3, ?_⟩
  walk_at "ev"
  refine ⟨_, _, g3, cnt_places hok hallok, hwl, ?_⟩
  walk_at "ev"
  rw [show cP sp (ms.map (·.1)) = R.length from hT.cs, hRR]
  refine ⟨false, by simp, nofun, fun _ => ?_⟩
  walk_at "ev"
  refine s_moves (k := k) hp hok hsp g1 fun p5 st5 ms5 R5 hp5 G5 e5 _ hT5 => ?_
  have hR5 : R5.length = R.length := Cb.reps_len hT5.reps hT.reps
  simp only [List.set_cons_succ, List.set_cons_zero]
  refine w_clr ?_
  walk_at "ev"
  refine ⟨_, _, rfl, G5.at g4, ?_⟩
  have hlt : p < st5.length := (List.getElem?_eq_some_iff.mp (G5.at g4)).1
  have hpp : p ≠ p5 := fun z => by
    have := (List.getElem?_eq_some_iff.mp g4).1
    omega
  walk_at "ev"
  refine w_lenL (by rw [List.getElem?_set_ne hpp]; exact e5) ?_
  walk_at "ev"
  have hne : p ≠ st3.length := fun z => by
    have := (List.getElem?_eq_some_iff.mp (G3.at f4)).1
    omega
  refine w_lenL (by rw [List.getElem?_set_ne hne]; exact G5.at at_new) ?_
  walk_at "ev"
  have hlen5 : (((ms5.map mvD).length : Nat) : Int) = (((mvd prs).map fun m => keyD m.1).length : Nat) + (R.length : Nat) := by
    have := hT5.len; simp; omega
  rw [hlen5]
  have := h (st5.set p (.lst []))
  simpa using this
theorem s_law {ns : List Int} (hl : ns.length ≤ 63) : Wv (calls tab (k + 4) i_law [.fl (ns.map .int)] st) fun d _ => d = .bl true := by
  walk_at "call"
  refine s_cell (by decide) fun v => ?_
  walk_at "ev"
  have hv4 : 0 ≤ v % 4 := Int.emod_nonneg _ (by decide)
  have hok : ok (pk2 "reg" (4 + v % 4)) := ⟨_, _, .inl rfl, rfl⟩
  refine w_for (fun _ i loc st' => ∃ (x y : Option D), loc = [some (.fl (ns.map .int)), some (keyD (pk2 "reg" (4 + v % 4))), x, y]) ?_
  walk_at "ev"
  refine ⟨_, source_rng (by rw [List.length_map]; split <;> split <;> omega), ⟨_, _, rfl⟩, ?_, ?_⟩
  · rintro i x loc st1 hx ⟨a, b, e⟩
    subst e
    obtain ⟨j, _, rfl⟩ : ∃ j : Nat, True ∧ x = .int (j : Int) := by
      have := List.mem_of_getElem? hx
      unfold rangeD at this
      obtain ⟨j, _, rfl⟩ := List.mem_map.mp this
      exact ⟨j, trivial, rfl⟩
    simp only [List.set_cons_succ, List.set_cons_zero]
    walk_at "ev"
    refine s_cell (k := k + 2) (by omega) fun c1 => ?_
    walk_at "ev"
    refine s_cell (k := k + 2) (by omega) fun c2 => ?_
    walk_at "ev"
    refine s_numbers (k := k + 1) at_new fun p st2 G2 hp2 hb => ?_
    walk_at "ev"
    simp only [List.set_cons_succ, List.set_cons_zero]
    refine s_pairs (k := k + 1) hb fun p3 st3 prs hp3 L3 e3 hprs hten => ?_
    walk_at "ev"
    refine s_right (k := k) hprs hok (fun z => ten_sp (by omega) (hten _ z)) e3 fun st4 => ?_
    refine ⟨true, rfl, ⟨false, rfl, nofun, fun _ => ?_⟩⟩
    walk_at "ev"
    exact ⟨_, _, rfl⟩
  · rintro loc st1 ⟨a, b, e⟩
    subst e
    walk_at "ev"
    rfl
end
end K65
end Ev
set_option maxHeartbeats 4000000
namespace Ev
open PySem PySem.Spec PyProof.Rows L2
namespace K65
noncomputable def top (i : Nat) : Stmt := PySem.Challenge.pw_eachstepsame_k65_moves_one_by_one.main.body.getD i (.Pass ⟨0, 0, 0, 0⟩)
noncomputable def names : List Str := ["moves_in_row", "ring_moves", "_law_cell_at", "_law_mixed", "_law_numbers", "_law_take", "_law_pairs", "_law_at", "_law_rings", "_law_right", "law"]
noncomputable def T : Tab := ⟨names, true⟩
noncomputable def r_moves_in_row : Rec := ⟨"moves_in_row", "moves_in_row", "moves_in_row", ["pairs", "spare"], ["pairs", "spare", "sources", "readers", "source", "rows", "free", "place"], top 1, f_moves_in_row⟩
noncomputable def r_ring_moves : Rec := ⟨"ring_moves", "ring_moves", "ring_moves", ["sources", "spare"], ["sources", "spare", "begin", "rows", "place"], top 2, f_ring_moves⟩
noncomputable def r__law_cell_at : Rec := ⟨"_law_cell_at", "_law_cell_at", "_law_cell_at", ["_law_script", "_law_k"], ["_law_script", "_law_k"], top 4, f__law_cell_at⟩
noncomputable def r__law_mixed : Rec := ⟨"_law_mixed", "_law_mixed", "_law_mixed", ["_law_cell", "_law_k"], ["_law_cell", "_law_k", "_law_number"], top 5, f__law_mixed⟩
noncomputable def r__law_numbers : Rec := ⟨"_law_numbers", "_law_numbers", "_law_numbers", ["_law_cells", "_law_many"], ["_law_cells", "_law_many", "_law_found", "_law_cell", "_law_left", "_law_k"], top 6, f__law_numbers⟩
noncomputable def r__law_take : Rec := ⟨"_law_take", "_law_take", "_law_take", ["_law_left"], ["_law_left"], top 7, f__law_take⟩
noncomputable def r__law_pairs : Rec := ⟨"_law_pairs", "_law_pairs", "_law_pairs", ["_law_left"], ["_law_left", "_law_places", "_law_every", "_law_pairs_here", "_law_k", "_law_place", "_law_number", "_law_source", "_law_one", "_law_other"], top 8, f__law_pairs⟩
noncomputable def r__law_at : Rec := ⟨"_law_at", "_law_at", "_law_at", ["_law_held", "_law_source"], ["_law_held", "_law_source"], top 9, f__law_at⟩
noncomputable def r__law_rings : Rec := ⟨"_law_rings", "_law_rings", "_law_rings", ["_law_pairs_here"], ["_law_pairs_here", "_law_onward", "_law_seen", "_law_rings_here", "_law_start", "_law_line", "_law_here"], top 10, f__law_rings⟩
noncomputable def r__law_right : Rec := ⟨"_law_right", "_law_right", "_law_right", ["_law_pairs_here", "_law_spare"], ["_law_pairs_here", "_law_spare", "_law_handed", "_law_rows", "_law_held", "_law_written", "_law_row", "_law_place", "_law_source", "_law_rings_here", "_law_moved", "_law_again"], top 11, f__law_right⟩
noncomputable def r_law : Rec := ⟨"law", "law", "law", ["_law_script"], ["_law_script", "_law_spare", "_law_k", "_law_left"], top 12, f_law⟩
noncomputable def recs : List Rec := [r_moves_in_row, r_ring_moves, r__law_cell_at, r__law_mixed, r__law_numbers, r__law_take, r__law_pairs, r__law_at, r__law_rings, r__law_right, r_law]
theorem c_moves_in_row : Chk T r_moves_in_row := ⟨⟨rfl, rfl, rfl, by decide +kernel, rfl, by decide +kernel, by decide +kernel⟩, by decide +kernel, by kernel_rfl, rfl, by decide +kernel⟩
theorem c_ring_moves : Chk T r_ring_moves := ⟨⟨rfl, rfl, rfl, by decide +kernel, rfl, by decide +kernel, by decide +kernel⟩, by decide +kernel, by kernel_rfl, rfl, by decide +kernel⟩
theorem c__law_cell_at : Chk T r__law_cell_at := ⟨⟨rfl, rfl, rfl, by decide +kernel, rfl, by decide +kernel, by decide +kernel⟩, by decide +kernel, by kernel_rfl, rfl, by decide +kernel⟩
theorem c__law_mixed : Chk T r__law_mixed := ⟨⟨rfl, rfl, rfl, by decide +kernel, rfl, by decide +kernel, by decide +kernel⟩, by decide +kernel, by kernel_rfl, rfl, by decide +kernel⟩
theorem c__law_numbers : Chk T r__law_numbers := ⟨⟨rfl, rfl, rfl, by decide +kernel, rfl, by decide +kernel, by decide +kernel⟩, by decide +kernel, by kernel_rfl, rfl, by decide +kernel⟩
theorem c__law_take : Chk T r__law_take := ⟨⟨rfl, rfl, rfl, by decide +kernel, rfl, by decide +kernel, by decide +kernel⟩, by decide +kernel, by kernel_rfl, rfl, by decide +kernel⟩
theorem c__law_pairs : Chk T r__law_pairs := ⟨⟨rfl, rfl, rfl, by decide +kernel, rfl, by decide +kernel, by decide +kernel⟩, by decide +kernel, by kernel_rfl, rfl, by decide +kernel⟩
theorem c__law_at : Chk T r__law_at := ⟨⟨rfl, rfl, rfl, by decide +kernel, rfl, by decide +kernel, by decide +kernel⟩, by decide +kernel, by kernel_rfl, rfl, by decide +kernel⟩
theorem c__law_rings : Chk T r__law_rings := ⟨⟨rfl, rfl, rfl, by decide +kernel, rfl, by decide +kernel, by decide +kernel⟩, by decide +kernel, by kernel_rfl, rfl, by decide +kernel⟩
theorem c__law_right : Chk T r__law_right := ⟨⟨rfl, rfl, rfl, by decide +kernel, rfl, by decide +kernel, by decide +kernel⟩, by decide +kernel, by kernel_rfl, rfl, by decide +kernel⟩
theorem c_law : Chk T r_law := ⟨⟨rfl, rfl, rfl, by decide +kernel, rfl, by decide +kernel, by decide +kernel⟩, by decide +kernel, by kernel_rfl, rfl, by decide +kernel⟩
theorem all_mk {l : PySem.W.OpenLaw} {w : World} {K : PySem.W.Frag} {h : Heap} {mg : Str → Option Value} {fa f1 f2 f3 f4 f5 f6 f7 f8 f9 f10 f11  : Addr} (X : K.In h) (G : h.Ns mainGlobals mg) (hfa : mg "law" = some (.ref fa))
    {od1 an1 od2 an2 od3 an3 od4 an4 od5 an5 od6 an6 od7 an7 od8 an8 od9 an9 od10 an10 od11 an11 : Option Addr} {sl1 sl2 sl3 sl4 sl5 sl6 sl7 sl8 sl9 sl10 sl11 : Array (Option Value)} {oc1 kV1 dc1 pm1 cd1 ct1 oc2 kV2 dc2 pm2 cd2 ct2 oc3 kV3 dc3 pm3 cd3 ct3 oc4 kV4 dc4 pm4 cd4 ct4 oc5 kV5 dc5 pm5 cd5 ct5 oc6 kV6 dc6 pm6 cd6 ct6 oc7 kV7 dc7 pm7 cd7 ct7 oc8 kV8 dc8 pm8 cd8 ct8 oc9 kV9 dc9 pm9 cd9 ct9 oc10 kV10 dc10 pm10 cd10 ct10 oc11 kV11 dc11 pm11 cd11 ct11 : Value}
    (a1 : PySem.W.nsIn K mainGlobals "moves_in_row" = some (some (.ref f1))) (l1 : K.lookup f1 = some ⟨oc1, od1, .func (PySem.W.fnOf "moves_in_row" "moves_in_row" (defArgs (top 1)) (defBody (top 1)) (defScope (top 1)) .none kV1 dc1 pm1 an1 cd1 ct1), sl1⟩) (c1 : PySem.W.codeIn K cd1 "moves_in_row" = true) (k1 : PySem.W.keepIn K (.ref f1) = true)
    (a2 : PySem.W.nsIn K mainGlobals "ring_moves" = some (some (.ref f2))) (l2 : K.lookup f2 = some ⟨oc2, od2, .func (PySem.W.fnOf "ring_moves" "ring_moves" (defArgs (top 2)) (defBody (top 2)) (defScope (top 2)) .none kV2 dc2 pm2 an2 cd2 ct2), sl2⟩) (c2 : PySem.W.codeIn K cd2 "ring_moves" = true) (k2 : PySem.W.keepIn K (.ref f2) = true)
    (a3 : PySem.W.nsIn K mainGlobals "_law_cell_at" = some (some (.ref f3))) (l3 : K.lookup f3 = some ⟨oc3, od3, .func (PySem.W.fnOf "_law_cell_at" "_law_cell_at" (defArgs (top 4)) (defBody (top 4)) (defScope (top 4)) .none kV3 dc3 pm3 an3 cd3 ct3), sl3⟩) (c3 : PySem.W.codeIn K cd3 "_law_cell_at" = true) (k3 : PySem.W.keepIn K (.ref f3) = true)
    (a4 : PySem.W.nsIn K mainGlobals "_law_mixed" = some (some (.ref f4))) (l4 : K.lookup f4 = some ⟨oc4, od4, .func (PySem.W.fnOf "_law_mixed" "_law_mixed" (defArgs (top 5)) (defBody (top 5)) (defScope (top 5)) .none kV4 dc4 pm4 an4 cd4 ct4), sl4⟩) (c4 : PySem.W.codeIn K cd4 "_law_mixed" = true) (k4 : PySem.W.keepIn K (.ref f4) = true)
    (a5 : PySem.W.nsIn K mainGlobals "_law_numbers" = some (some (.ref f5))) (l5 : K.lookup f5 = some ⟨oc5, od5, .func (PySem.W.fnOf "_law_numbers" "_law_numbers" (defArgs (top 6)) (defBody (top 6)) (defScope (top 6)) .none kV5 dc5 pm5 an5 cd5 ct5), sl5⟩) (c5 : PySem.W.codeIn K cd5 "_law_numbers" = true) (k5 : PySem.W.keepIn K (.ref f5) = true)
    (a6 : PySem.W.nsIn K mainGlobals "_law_take" = some (some (.ref f6))) (l6 : K.lookup f6 = some ⟨oc6, od6, .func (PySem.W.fnOf "_law_take" "_law_take" (defArgs (top 7)) (defBody (top 7)) (defScope (top 7)) .none kV6 dc6 pm6 an6 cd6 ct6), sl6⟩) (c6 : PySem.W.codeIn K cd6 "_law_take" = true) (k6 : PySem.W.keepIn K (.ref f6) = true)
    (a7 : PySem.W.nsIn K mainGlobals "_law_pairs" = some (some (.ref f7))) (l7 : K.lookup f7 = some ⟨oc7, od7, .func (PySem.W.fnOf "_law_pairs" "_law_pairs" (defArgs (top 8)) (defBody (top 8)) (defScope (top 8)) .none kV7 dc7 pm7 an7 cd7 ct7), sl7⟩) (c7 : PySem.W.codeIn K cd7 "_law_pairs" = true) (k7 : PySem.W.keepIn K (.ref f7) = true)
    (a8 : PySem.W.nsIn K mainGlobals "_law_at" = some (some (.ref f8))) (l8 : K.lookup f8 = some ⟨oc8, od8, .func (PySem.W.fnOf "_law_at" "_law_at" (defArgs (top 9)) (defBody (top 9)) (defScope (top 9)) .none kV8 dc8 pm8 an8 cd8 ct8), sl8⟩) (c8 : PySem.W.codeIn K cd8 "_law_at" = true) (k8 : PySem.W.keepIn K (.ref f8) = true)
    (a9 : PySem.W.nsIn K mainGlobals "_law_rings" = some (some (.ref f9))) (l9 : K.lookup f9 = some ⟨oc9, od9, .func (PySem.W.fnOf "_law_rings" "_law_rings" (defArgs (top 10)) (defBody (top 10)) (defScope (top 10)) .none kV9 dc9 pm9 an9 cd9 ct9), sl9⟩) (c9 : PySem.W.codeIn K cd9 "_law_rings" = true) (k9 : PySem.W.keepIn K (.ref f9) = true)
    (a10 : PySem.W.nsIn K mainGlobals "_law_right" = some (some (.ref f10))) (l10 : K.lookup f10 = some ⟨oc10, od10, .func (PySem.W.fnOf "_law_right" "_law_right" (defArgs (top 11)) (defBody (top 11)) (defScope (top 11)) .none kV10 dc10 pm10 an10 cd10 ct10), sl10⟩) (c10 : PySem.W.codeIn K cd10 "_law_right" = true) (k10 : PySem.W.keepIn K (.ref f10) = true)
    (a11 : PySem.W.nsIn K mainGlobals "law" = some (some (.ref f11))) (l11 : K.lookup f11 = some ⟨oc11, od11, .func (PySem.W.fnOf "law" "law" (defArgs (top 12)) (defBody (top 12)) (defScope (top 12)) .none kV11 dc11 pm11 an11 cd11 ct11), sl11⟩) (c11 : PySem.W.codeIn K cd11 "law" = true) (k11 : PySem.W.keepIn K (.ref f11) = true)
    (z1 : PySem.W.nsIn K mainGlobals "len" = some none)
    (z2 : PySem.W.nsIn K mainGlobals "list" = some none)
    (z3 : PySem.W.nsIn K mainGlobals "tuple" = some none)
    (z4 : PySem.W.nsIn K mainGlobals "int" = some none)
    (z5 : PySem.W.nsIn K mainGlobals "max" = some none)
    (z6 : PySem.W.nsIn K mainGlobals "min" = some none)
    (z7 : PySem.W.nsIn K mainGlobals "dict" = some none)
    (z8 : PySem.W.nsIn K mainGlobals "isinstance" = some none)
    (z9 : PySem.W.nsIn K mainGlobals "range" = some none)
    : ∃ fd : FuncData, (∀ (s : Shared) (v : Value), BindsTo s fd ⟨[v], []⟩ [("_law_script", v)]) ∧ ∀ base : Heap, K.In base → base.Ns mainGlobals mg → FnOk l.prog w K mg base (CXe l.prog w) (2 * 4) fa fd ["_law_script"] (spLaw K) := by
  have e := hfa.symm.trans (PySem.W.mg_of X G a11)
  cases e
  have F1 := fun_mk (st := top 1) l1 c1 k1
  have L1 : Lnk K r_moves_in_row _ _ := ⟨F1, F1.binds (ps := ["pairs", "spare"]) fun _ _ _ _ _ _ us hl => match us, hl with | [_, _], _ => rfl⟩
  have F2 := fun_mk (st := top 2) l2 c2 k2
  have L2 : Lnk K r_ring_moves _ _ := ⟨F2, F2.binds (ps := ["sources", "spare"]) fun _ _ _ _ _ _ us hl => match us, hl with | [_, _], _ => rfl⟩
  have F3 := fun_mk (st := top 4) l3 c3 k3
  have L3 : Lnk K r__law_cell_at _ _ := ⟨F3, F3.binds (ps := ["_law_script", "_law_k"]) fun _ _ _ _ _ _ us hl => match us, hl with | [_, _], _ => rfl⟩
  have F4 := fun_mk (st := top 5) l4 c4 k4
  have L4 : Lnk K r__law_mixed _ _ := ⟨F4, F4.binds (ps := ["_law_cell", "_law_k"]) fun _ _ _ _ _ _ us hl => match us, hl with | [_, _], _ => rfl⟩
  have F5 := fun_mk (st := top 6) l5 c5 k5
  have L5 : Lnk K r__law_numbers _ _ := ⟨F5, F5.binds (ps := ["_law_cells", "_law_many"]) fun _ _ _ _ _ _ us hl => match us, hl with | [_, _], _ => rfl⟩
  have F6 := fun_mk (st := top 7) l6 c6 k6
  have L6 : Lnk K r__law_take _ _ := ⟨F6, F6.binds (ps := ["_law_left"]) fun _ _ _ _ _ _ us hl => match us, hl with | [_], _ => rfl⟩
  have F7 := fun_mk (st := top 8) l7 c7 k7
  have L7 : Lnk K r__law_pairs _ _ := ⟨F7, F7.binds (ps := ["_law_left"]) fun _ _ _ _ _ _ us hl => match us, hl with | [_], _ => rfl⟩
  have F8 := fun_mk (st := top 9) l8 c8 k8
  have L8 : Lnk K r__law_at _ _ := ⟨F8, F8.binds (ps := ["_law_held", "_law_source"]) fun _ _ _ _ _ _ us hl => match us, hl with | [_, _], _ => rfl⟩
  have F9 := fun_mk (st := top 10) l9 c9 k9
  have L9 : Lnk K r__law_rings _ _ := ⟨F9, F9.binds (ps := ["_law_pairs_here"]) fun _ _ _ _ _ _ us hl => match us, hl with | [_], _ => rfl⟩
  have F10 := fun_mk (st := top 11) l10 c10 k10
  have L10 : Lnk K r__law_right _ _ := ⟨F10, F10.binds (ps := ["_law_pairs_here", "_law_spare"]) fun _ _ _ _ _ _ us hl => match us, hl with | [_, _], _ => rfl⟩
  have F11 := fun_mk (st := top 12) l11 c11 k11
  have L11 : Lnk K r_law _ _ := ⟨F11, F11.binds (ps := ["_law_script"]) fun _ _ _ _ _ _ us hl => match us, hl with | [_], _ => rfl⟩
  have hc : ∀ r ∈ recs, Chk T r := (List.forall_mem_cons.mpr ⟨c_moves_in_row, (List.forall_mem_cons.mpr ⟨c_ring_moves, (List.forall_mem_cons.mpr ⟨c__law_cell_at, (List.forall_mem_cons.mpr ⟨c__law_mixed, (List.forall_mem_cons.mpr ⟨c__law_numbers, (List.forall_mem_cons.mpr ⟨c__law_take, (List.forall_mem_cons.mpr ⟨c__law_pairs, (List.forall_mem_cons.mpr ⟨c__law_at, (List.forall_mem_cons.mpr ⟨c__law_rings, (List.forall_mem_cons.mpr ⟨c__law_right, (List.forall_mem_cons.mpr ⟨c_law, (fun _ h => nomatch h)⟩)⟩)⟩)⟩)⟩)⟩)⟩)⟩)⟩)⟩)⟩)
  have hf : ∀ p ∈ List.zip names recs, (p.1 == ("__debug__" : Str)) = false ∧ ∃ a fd, Lnk K p.2 a fd ∧ mg p.1 = some (.ref a) := (List.forall_mem_cons.mpr ⟨⟨by decide +kernel, _, _, L1, PySem.W.mg_of X G a1⟩, (List.forall_mem_cons.mpr ⟨⟨by decide +kernel, _, _, L2, PySem.W.mg_of X G a2⟩, (List.forall_mem_cons.mpr ⟨⟨by decide +kernel, _, _, L3, PySem.W.mg_of X G a3⟩, (List.forall_mem_cons.mpr ⟨⟨by decide +kernel, _, _, L4, PySem.W.mg_of X G a4⟩, (List.forall_mem_cons.mpr ⟨⟨by decide +kernel, _, _, L5, PySem.W.mg_of X G a5⟩, (List.forall_mem_cons.mpr ⟨⟨by decide +kernel, _, _, L6, PySem.W.mg_of X G a6⟩, (List.forall_mem_cons.mpr ⟨⟨by decide +kernel, _, _, L7, PySem.W.mg_of X G a7⟩, (List.forall_mem_cons.mpr ⟨⟨by decide +kernel, _, _, L8, PySem.W.mg_of X G a8⟩, (List.forall_mem_cons.mpr ⟨⟨by decide +kernel, _, _, L9, PySem.W.mg_of X G a9⟩, (List.forall_mem_cons.mpr ⟨⟨by decide +kernel, _, _, L10, PySem.W.mg_of X G a10⟩, (List.forall_mem_cons.mpr ⟨⟨by decide +kernel, _, _, L11, PySem.W.mg_of X G a11⟩, (fun _ h => nomatch h)⟩)⟩)⟩)⟩)⟩)⟩)⟩)⟩)⟩)⟩)⟩)
  have hb : ∀ x ∈ blts, mg x = none := (List.forall_mem_cons.mpr ⟨PySem.W.mg_none_of X G z1, (List.forall_mem_cons.mpr ⟨PySem.W.mg_none_of X G z2, (List.forall_mem_cons.mpr ⟨PySem.W.mg_none_of X G z3, (List.forall_mem_cons.mpr ⟨PySem.W.mg_none_of X G z4, (List.forall_mem_cons.mpr ⟨PySem.W.mg_none_of X G z5, (List.forall_mem_cons.mpr ⟨PySem.W.mg_none_of X G z6, (List.forall_mem_cons.mpr ⟨PySem.W.mg_none_of X G z7, (List.forall_mem_cons.mpr ⟨PySem.W.mg_none_of X G z8, (List.forall_mem_cons.mpr ⟨PySem.W.mg_none_of X G z9, (fun _ h => nomatch h)⟩)⟩)⟩)⟩)⟩)⟩)⟩)⟩)⟩)
  have Z : Facts K mg T recs := facts_mk X G hc rfl (by decide +kernel) hf hb
  refine ⟨PySem.W.fnOf "law" "law" (defArgs (top 12)) (defBody (top 12)) (defScope (top 12)) .none kV11 dc11 pm11 an11 cd11 ct11, fun s v => .of_eq rfl, fun base _ _ => law_fn (n := 2 * 4) (all_fns Z 4 10 r_law _ _ rfl L11) fun ns hn => ?_⟩
  obtain ⟨a, st', e, h⟩ := W.get (s_law (k := 0) (st := []) hn)
  cases a with
  | v d =>
    have h : d = .bl true := h
    subst h
    exact ⟨st', e⟩
  | x n => exact h.elim
end K65
end Ev
open PySem PySem.W PyProof.Rows
set_option maxRecDepth 100000 in
set_option maxHeartbeats 0 in
theorem PySem.Challenge.cw_eachstepsame_k65_moves_one_by_one_holds : PySem.Challenge.rw_eachstepsame_k65_moves_one_by_one.Holds := by
  w_on; o_law; k_head; (case hw => w_witness2)
  k_fill
  refine Ev.walk (l := PySem.Challenge.rw_eachstepsame_k65_moves_one_by_one) (n := 2 * 4) (x := "_law_script") rfl rfl ⟨rfl, by decide, by decide⟩ (fun w h Y => PySem.W.kIn_of Y) ?F
  case F =>
    intro w mg fa h KX G hmg
    refine' Ev.K65.all_mk KX G hmg ?a1 ?l1 ?c1 ?k1 ?a2 ?l2 ?c2 ?k2 ?a3 ?l3 ?c3 ?k3 ?a4 ?l4 ?c4 ?k4 ?a5 ?l5 ?c5 ?k5 ?a6 ?l6 ?c6 ?k6 ?a7 ?l7 ?c7 ?k7 ?a8 ?l8 ?c8 ?k8 ?a9 ?l9 ?c9 ?k9 ?a10 ?l10 ?c10 ?k10 ?a11 ?l11 ?c11 ?k11 ?z1 ?z2 ?z3 ?z4 ?z5 ?z6 ?z7 ?z8 ?z9
    (case a1 => k_is)
    (case l1 => k_is)
    (case c1 => k_is)
    (case k1 => k_is)
    (case a2 => k_is)
    (case l2 => k_is)
    (case c2 => k_is)
    (case k2 => k_is)
    (case a3 => k_is)
    (case l3 => k_is)
    (case c3 => k_is)
    (case k3 => k_is)
    (case a4 => k_is)
    (case l4 => k_is)
    (case c4 => k_is)
    (case k4 => k_is)
    (case a5 => k_is)
    (case l5 => k_is)
    (case c5 => k_is)
    (case k5 => k_is)
    (case a6 => k_is)
    (case l6 => k_is)
    (case c6 => k_is)
    (case k6 => k_is)
    (case a7 => k_is)
    (case l7 => k_is)
    (case c7 => k_is)
    (case k7 => k_is)
    (case a8 => k_is)
    (case l8 => k_is)
    (case c8 => k_is)
    (case k8 => k_is)
    (case a9 => k_is)
    (case l9 => k_is)
    (case c9 => k_is)
    (case k9 => k_is)
    (case a10 => k_is)
    (case l10 => k_is)
    (case c10 => k_is)
    (case k10 => k_is)
    (case a11 => k_is)
    (case l11 => k_is)
    (case c11 => k_is)
    (case k11 => k_is)
    (case z1 => k_is)
    (case z2 => k_is)
    (case z3 => k_is)
    (case z4 => k_is)
    (case z5 => k_is)
    (case z6 => k_is)
    (case z7 => k_is)
    (case z8 => k_is)
    (case z9 => k_is)
